/- The iterator over the numbers of letters: what it yields, for every loop body. -/
import Derived.RangeFuncNested
import Derived.RangeFuncBound
import Derived.RangeFuncCalls
import Derived.RangeFuncLeaves
import Derived.Shelf.Abstract
import Derived.WalkKit
import Derived.OwnWalkIn
import Derived.TacticsInMore
import Derived.LoopNIn
import Derived.LoopIn
import Derived.Test.YtjdomdeejibnmaaRefNums
namespace Go.Proofs.Ytjdomdeejibnmaa.Tok
open Go.RowKit Go.Shelf Go.Proofs.Ytjdomdeejibnmaa
attribute [local go_sem] Oper.semAt_some

/-- What comes of the letters: the numbers, and behind them the place of a letter that is not possible. -/
def errP : Option Nat → List (Int × Bool)
  | none => []
  | some i => [((i : Int), false)]
def okP (o : List Int) : List (Int × Bool) := o.map fun n => (n, true)
def ysF (L : List UInt8) : List (Int × Bool) := okP (numsF L 0 0 0).1 ++ errP (numsF L 0 0 0).2
theorem okP_snoc (o : List Int) (x : Int) : okP o ++ [(x, true)] = okP (o ++ [x]) := by simp [okP]
theorem ys_none {L : List UInt8} {o : List Int} (h : numsF L 0 0 0 = (o, none)) : okP o = ysF L := by
  unfold ysF
  rw [h]
  simp [errP]
theorem ys_some {L : List UInt8} {o : List Int} {k : Nat} (h : numsF L 0 0 0 = (o, some k)) : okP o ++ [((k : Int), false)] = ysF L := by
  unfold ysF
  rw [h]
  rfl
theorem NumAt.before {L : List UInt8} {k high : Nat} {last : Int} {o : List Int} (h : NumAt L k high last o) : okP o <+: ysF L := by
  unfold NumAt at h
  unfold ysF
  rw [h]
  refine ⟨okP (numsF (L.drop k) k high last).1 ++ errP (numsF (L.drop k) k high last).2, ?_⟩
  simp [preN, okP]
def encY (x : Int × Bool) : Array Value := #[.int .i64 x.1, .bool x.2]

/-- The block still holds what it held. -/
def keepS (Bn : Nat) (W W' : World) : Prop := W'.cell? ⟨Bn, 0, none⟩ = W.cell? ⟨Bn, 0, none⟩
structure DecRel (s : ByteArray) (Bn : Nat) (J : List (Int × Bool) → World → Prop) (k high : Nat) (last : Int) (o : List Int) (wr : World) : Prop where
  at_ : NumAt s.data.toList k high last o
  len : o.length ≤ k
  hi : high ≤ 1000000
  cel : wr.cell? ⟨Bn, 0, none⟩ = some (.string s)
  j : J (okP o) wr
theorem DecRel.push {s : ByteArray} {Bn : Nat} {wr w2 : World} {J : List (Int × Bool) → World → Prop} {k high high' : Nat} {last last' x : Int} {o : List Int} (h : DecRel s Bn J k high last o wr) (ha : NumAt s.data.toList (k + 1) high' last' (o ++ [x])) (hh : high' ≤ 1000000)
    (hj : J (okP o ++ [(x, true)]) w2) (hb : keepS Bn wr w2) : DecRel s Bn J (k + 1) high' last' (o ++ [x]) w2 :=
  ⟨ha, by have := h.len; simp; omega, hh, hb.trans h.cel, by rw [← okP_snoc]; exact hj⟩

set_option maxRecDepth 100000 in
set_option maxHeartbeats 4000000 in
theorem decode1_in (F : Fence) (n : Nat) (hF : F.fn 40) (hro : F.round = none) (hn : 1 ≤ n) (l Bn : Nat) (s : ByteArray) (hs : s.size ≤ 40000) (J Jx : List (Int × Bool) → World → Prop)
    (hY : ∀ pre x W, J pre W → pre.length < s.size + 1 → YieldAt F (n - 1) Try.prog l (encY x) W fun e W' =>
      (e = .returned (.bool true) ∧ J (pre ++ [x]) W' ∧ keepS Bn W W') ∨ (e = .returned (.bool false) ∧ Jx (pre ++ [x]) W'))
    (W : World) (hBn : W.cell? ⟨Bn, 0, none⟩ = some (.string s)) (h0 : J [] W) :
    CallsIn F n Try.prog 40 #[.func (.yield l) #[] #[], .pointer (some ⟨Bn, 0, none⟩)] W fun e W' => (∃ v, e = .returned v) ∧
      ((∃ ys, ys = ysF s.data.toList ∧ J ys W') ∨ (∃ pre, pre <+: ysF s.data.toList ∧ Jx pre W')) := by
  have HY := Lib.hid hY
  clear hY
  refine callsIn_of_wp Try.func40 rfl hF ?_ hro
  simp only [Try.ntmps40, List.size_toArray, List.length_cons, List.length_nil, Nat.reduceAdd, Nat.reduceSub, Array.replicate_succ, Array.replicate_zero, List.push_toArray, List.append_toArray, List.nil_append, List.cons_append]
  gi_wp2
  gi_loopw [3, 4, 10] (fun h lt i wr => ∃ (k high : Nat) (last : Int) (o : List Int), k ≤ s.size ∧ i = .int .i64 k ∧ h = .int .i64 high ∧ lt = .int .i64 last ∧ DecRel s Bn J k high last o wr) (fun _ _ i _ => s.size - (intOf i).toNat)
  case atStart => exact ⟨0, 0, 0, [], Nat.zero_le _, rfl, rfl, rfl, NumAt.start, Nat.le_refl _, by omega, hBn, h0⟩
  case round =>
    obtain ⟨k, high, last, o, hk, rfl, rfl, rfl, hrel⟩ := hrel
    have Rel := Lib.hid hrel
    have hhi := hrel.hi
    have hln := hrel.len
    have hcs := hrel.cel
    clear hrel
    by_cases hlt : k < s.size
    · have hb : Hid (s.data.toList[k]? = some s[k]) := byteAt s k hlt
      have h255 : (s[k]).toNat ≤ 255 := by have := s[k].toNat_lt; omega
      have hpl : (okP o).length < s.size + 1 := by simp [okP]; omega
      rcases (show ((s[k]).toNat < 63 ∨ (s[k]).toNat = 64 ∨ 90 < (s[k]).toNat) ∨ (65 ≤ (s[k]).toNat ∧ (s[k]).toNat ≤ 84) ∨ (85 ≤ (s[k]).toNat ∧ (s[k]).toNat ≤ 89) ∨ (s[k]).toNat = 90 ∨ (s[k]).toNat = 63 by omega) with h | ⟨g1, g2⟩ | ⟨g1, g2⟩ | h | h
      · -- no letter
        have He := Lib.hid (Rel.out.at_.bad hb.out (by omega) (by omega) (by omega) (by omega))
        have e90 : (((s[k]).toNat : Int) == 90) = false := by rw [beq_eq_false_iff_ne]; omega
        have e63 : (((s[k]).toNat : Int) == 63) = false := by rw [beq_eq_false_iff_ne]; omega
        rcases h with h | h | h
        all_goals
          obtain ⟨fn, tmps, assign, body, hy, hR⟩ := HY.out _ ((k : Int), false) wr Rel.out.j hpl
          dsimp only [encY] at hy
          gi_wp2
          refine hR.mono ?_
          rintro e W3 (⟨rfl, hJ3, hk3⟩ | ⟨rfl, hJx3⟩)
          · gi_wp2
            refine bodyPost_ret (results_none rfl _ _ _) rfl ?_
            exact ⟨⟨_, rfl⟩, .inl ⟨_, ys_some He.out, hJ3⟩⟩
          · gi_wp2
            refine bodyPost_ret (results_none rfl _ _ _) rfl ?_
            exact ⟨⟨_, rfl⟩, .inr ⟨_, by rw [ys_some He.out]; exact List.prefix_refl _, hJx3⟩⟩
      · -- a last digit
        have e90 : (((s[k]).toNat : Int) == 90) = false := by rw [beq_eq_false_iff_ne]; omega
        have e63 : (((s[k]).toNat : Int) == 63) = false := by rw [beq_eq_false_iff_ne]; omega
        by_cases hm : high * 20 + ((s[k]).toNat - 65) + 1 ≤ 1000000
        · have hle : (high : Int) * 20 + (((s[k]).toNat : Int) - 65) + 1 ≤ 1000000 := by omega
          have Hx := Lib.hid (show ((high * 20 + ((s[k]).toNat - 65) + 1 : Nat) : Int) = (high : Int) * 20 + (((s[k]).toNat : Int) - 65) + 1 by omega)
          have Ha := Lib.hid (Rel.out.at_.digit hb.out ⟨g1, g2⟩ rfl hm)
          rw [Hx.out] at Ha
          clear hm
          obtain ⟨fn, tmps, assign, body, hy, hR⟩ := HY.out _ (((high : Int) * 20 + (((s[k]).toNat : Int) - 65) + 1), true) wr Rel.out.j hpl
          dsimp only [encY] at hy
          gi_wp2
          refine hR.mono ?_
          rintro e W3 (⟨rfl, hJ3, hk3⟩ | ⟨rfl, hJx3⟩)
          · gi_wp2
            go_roundw
            case rel => exact ⟨k + 1, 0, _, o ++ [((high : Int) * 20 + (((s[k]).toNat : Int) - 65) + 1)], by omega, by go_num, rfl, rfl, Rel.out.push Ha.out (by omega) hJ3 hk3⟩
            case measure => simp [intOf]; omega
          · gi_wp2
            refine bodyPost_ret (results_none rfl _ _ _) rfl ?_
            exact ⟨⟨_, rfl⟩, .inr ⟨_, by rw [okP_snoc]; exact Ha.out.before, hJx3⟩⟩
        · have hle : ¬ (high : Int) * 20 + (((s[k]).toNat : Int) - 65) + 1 ≤ 1000000 := by omega
          have He := Lib.hid (Rel.out.at_.digit_big hb.out ⟨g1, g2⟩ (by omega))
          clear hm
          obtain ⟨fn, tmps, assign, body, hy, hR⟩ := HY.out _ ((k : Int), false) wr Rel.out.j hpl
          dsimp only [encY] at hy
          gi_wp2
          refine hR.mono ?_
          rintro e W3 (⟨rfl, hJ3, hk3⟩ | ⟨rfl, hJx3⟩)
          · gi_wp2
            refine bodyPost_ret (results_none rfl _ _ _) rfl ?_
            exact ⟨⟨_, rfl⟩, .inl ⟨_, ys_some He.out, hJ3⟩⟩
          · gi_wp2
            refine bodyPost_ret (results_none rfl _ _ _) rfl ?_
            exact ⟨⟨_, rfl⟩, .inr ⟨_, by rw [ys_some He.out]; exact List.prefix_refl _, hJx3⟩⟩
      · -- a digit ahead
        have e90 : (((s[k]).toNat : Int) == 90) = false := by rw [beq_eq_false_iff_ne]; omega
        have e63 : (((s[k]).toNat : Int) == 63) = false := by rw [beq_eq_false_iff_ne]; omega
        by_cases hm : high * 5 + ((s[k]).toNat - 85) + 1 ≤ 1000000
        · have hle : (high : Int) * 5 + (((s[k]).toNat : Int) - 85) + 1 ≤ 1000000 := by omega
          have Hx := Lib.hid (show (high : Int) * 5 + (((s[k]).toNat : Int) - 85) + 1 = ((high * 5 + ((s[k]).toNat - 85) + 1 : Nat) : Int) by omega)
          have Ha := Lib.hid (Rel.out.at_.up hb.out ⟨g1, g2⟩ rfl hm)
          have Hm := Lib.hid hm
          clear hm
          gi_wp2
          go_roundw
          case rel => exact ⟨k + 1, high * 5 + ((s[k]).toNat - 85) + 1, last, o, by omega, by go_num, by rw [Hx.out], rfl, Ha.out, by omega, Hm.out, Rel.out.cel, Rel.out.j⟩
          case measure => simp [intOf]; omega
        · have hle : ¬ (high : Int) * 5 + (((s[k]).toNat : Int) - 85) + 1 ≤ 1000000 := by omega
          have He := Lib.hid (Rel.out.at_.up_big hb.out ⟨g1, g2⟩ (by omega))
          clear hm
          obtain ⟨fn, tmps, assign, body, hy, hR⟩ := HY.out _ ((k : Int), false) wr Rel.out.j hpl
          dsimp only [encY] at hy
          gi_wp2
          refine hR.mono ?_
          rintro e W3 (⟨rfl, hJ3, hk3⟩ | ⟨rfl, hJx3⟩)
          · gi_wp2
            refine bodyPost_ret (results_none rfl _ _ _) rfl ?_
            exact ⟨⟨_, rfl⟩, .inl ⟨_, ys_some He.out, hJ3⟩⟩
          · gi_wp2
            refine bodyPost_ret (results_none rfl _ _ _) rfl ?_
            exact ⟨⟨_, rfl⟩, .inr ⟨_, by rw [ys_some He.out]; exact List.prefix_refl _, hJx3⟩⟩
      · -- a Z
        have e90 : (((s[k]).toNat : Int) == 90) = true := by rw [beq_iff_eq]; omega
        have e63 : (((s[k]).toNat : Int) == 63) = false := by rw [beq_eq_false_iff_ne]; omega
        by_cases h0 : high = 0
        · subst h0
          by_cases hl : 0 < last
          · have Ha := Lib.hid (Rel.out.at_.save hb.out h hl)
            obtain ⟨fn, tmps, assign, body, hy, hR⟩ := HY.out _ (0, true) wr Rel.out.j hpl
            dsimp only [encY] at hy
            gi_wp2
            refine hR.mono ?_
            rintro e W3 (⟨rfl, hJ3, hk3⟩ | ⟨rfl, hJx3⟩)
            · gi_wp2
              go_roundw
              case rel => exact ⟨k + 1, 0, _, o ++ [0], by omega, by go_num, rfl, rfl, Rel.out.push Ha.out (by omega) hJ3 hk3⟩
              case measure => simp [intOf]; omega
            · gi_wp2
              refine bodyPost_ret (results_none rfl _ _ _) rfl ?_
              exact ⟨⟨_, rfl⟩, .inr ⟨_, by rw [okP_snoc]; exact Ha.out.before, hJx3⟩⟩
          · have He := Lib.hid (Rel.out.at_.bad hb.out (by omega) (by omega) (fun h => hl h.2.2) (by omega))
            obtain ⟨fn, tmps, assign, body, hy, hR⟩ := HY.out _ ((k : Int), false) wr Rel.out.j hpl
            dsimp only [encY] at hy
            gi_wp2
            refine hR.mono ?_
            rintro e W3 (⟨rfl, hJ3, hk3⟩ | ⟨rfl, hJx3⟩)
            · gi_wp2
              refine bodyPost_ret (results_none rfl _ _ _) rfl ?_
              exact ⟨⟨_, rfl⟩, .inl ⟨_, ys_some He.out, hJ3⟩⟩
            · gi_wp2
              refine bodyPost_ret (results_none rfl _ _ _) rfl ?_
              exact ⟨⟨_, rfl⟩, .inr ⟨_, by rw [ys_some He.out]; exact List.prefix_refl _, hJx3⟩⟩
        · have h0' : ((high : Int) == 0) = false := by rw [beq_eq_false_iff_ne]; omega
          have He := Lib.hid (Rel.out.at_.bad hb.out (by omega) (by omega) (fun h => h0 h.2.1) (by omega))
          clear h0
          obtain ⟨fn, tmps, assign, body, hy, hR⟩ := HY.out _ ((k : Int), false) wr Rel.out.j hpl
          dsimp only [encY] at hy
          gi_wp2
          refine hR.mono ?_
          rintro e W3 (⟨rfl, hJ3, hk3⟩ | ⟨rfl, hJx3⟩)
          · gi_wp2
            refine bodyPost_ret (results_none rfl _ _ _) rfl ?_
            exact ⟨⟨_, rfl⟩, .inl ⟨_, ys_some He.out, hJ3⟩⟩
          · gi_wp2
            refine bodyPost_ret (results_none rfl _ _ _) rfl ?_
            exact ⟨⟨_, rfl⟩, .inr ⟨_, by rw [ys_some He.out]; exact List.prefix_refl _, hJx3⟩⟩
      · -- an unknown one
        have e90 : (((s[k]).toNat : Int) == 90) = false := by rw [beq_eq_false_iff_ne]; omega
        have e63 : (((s[k]).toNat : Int) == 63) = true := by rw [beq_iff_eq]; omega
        by_cases h0 : high = 0
        · subst h0
          have Ha := Lib.hid (Rel.out.at_.ask hb.out h)
          obtain ⟨fn, tmps, assign, body, hy, hR⟩ := HY.out _ ((-1), true) wr Rel.out.j hpl
          dsimp only [encY] at hy
          gi_wp2
          refine hR.mono ?_
          rintro e W3 (⟨rfl, hJ3, hk3⟩ | ⟨rfl, hJx3⟩)
          · gi_wp2
            go_roundw
            case rel => exact ⟨k + 1, 0, _, o ++ [(-1)], by omega, by go_num, rfl, rfl, Rel.out.push Ha.out (by omega) hJ3 hk3⟩
            case measure => simp [intOf]; omega
          · gi_wp2
            refine bodyPost_ret (results_none rfl _ _ _) rfl ?_
            exact ⟨⟨_, rfl⟩, .inr ⟨_, by rw [okP_snoc]; exact Ha.out.before, hJx3⟩⟩
        · have h0' : ((high : Int) == 0) = false := by rw [beq_eq_false_iff_ne]; omega
          have He := Lib.hid (Rel.out.at_.bad hb.out (by omega) (by omega) (by omega) (fun h => h0 h.2))
          clear h0
          obtain ⟨fn, tmps, assign, body, hy, hR⟩ := HY.out _ ((k : Int), false) wr Rel.out.j hpl
          dsimp only [encY] at hy
          gi_wp2
          refine hR.mono ?_
          rintro e W3 (⟨rfl, hJ3, hk3⟩ | ⟨rfl, hJx3⟩)
          · gi_wp2
            refine bodyPost_ret (results_none rfl _ _ _) rfl ?_
            exact ⟨⟨_, rfl⟩, .inl ⟨_, ys_some He.out, hJ3⟩⟩
          · gi_wp2
            refine bodyPost_ret (results_none rfl _ _ _) rfl ?_
            exact ⟨⟨_, rfl⟩, .inr ⟨_, by rw [ys_some He.out]; exact List.prefix_refl _, hJx3⟩⟩
    · obtain rfl : k = s.size := by omega
      have hend := Lib.hid (Rel.out.at_.end_ (by simp))
      by_cases h0 : high = 0
      · subst h0
        gi_wp2
        go_end0
        exact ⟨⟨_, rfl⟩, .inl ⟨_, ys_none (by rw [hend.out]; rfl), Rel.out.j⟩⟩
      · have h0' : 0 < (high : Int) := by omega
        have He := Lib.hid (show numsF s.data.toList 0 0 0 = (o, some s.size) by rw [hend.out, if_pos (by omega)])
        have hpl : (okP o).length < s.size + 1 := by simp [okP]; omega
        obtain ⟨fn, tmps, assign, body, hy, hR⟩ := HY.out _ ((s.size : Int), false) wr Rel.out.j hpl
        dsimp only [encY] at hy
        clear hend h0
        gi_wp2
        refine hR.mono ?_
        rintro e W3 (⟨rfl, hJ3, hk3⟩ | ⟨rfl, hJx3⟩)
        · gi_wp2
          go_end0
          exact ⟨⟨_, rfl⟩, .inl ⟨_, ys_some He.out, hJ3⟩⟩
        · gi_wp2
          go_end0
          exact ⟨⟨_, rfl⟩, .inr ⟨_, by rw [ys_some He.out]; exact List.prefix_refl _, hJx3⟩⟩
end Go.Proofs.Ytjdomdeejibnmaa.Tok
