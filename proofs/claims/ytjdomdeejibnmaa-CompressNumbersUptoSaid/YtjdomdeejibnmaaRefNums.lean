/- Contract of the reference's Numbers of letters. -/
import Derived.Test.YtjdomdeejibnmaaNumMath
import Derived.Test.YtjdomdeejibnmaaRefScan
import Derived.Test.YtjdomdeejibnmaaAppend
namespace Go.Proofs.Ytjdomdeejibnmaa.Tok
open Go.RowKit Go.Proofs.Ytjdomdeejibnmaa

theorem infoInt : (Try.prog.info? 3).map (fun i => (i.zero, i.size, i.bytes)) = some (some (.int .i64 0), 1, 8) := by kernel_rfl
theorem one_new (w : World) (t : TypeId) (a : Value) {j : Nat} {u : Value} (h : [a][j]? = some u) : (w.alloc (.cells #[a] t)).cell? ((⟨w.heap.size, 0, none⟩ : Addr).add j) = some u := by
  rw [add_zero_block, cell_of_row _ _ _ _ _ _ (heap_alloc_new w _)]
  simpa using h
theorem one_int (b : Int) : ∀ u ∈ [Value.int .i64 b], u.oneCell' = true := by
  intro u hu
  simp only [List.mem_cons, List.not_mem_nil, or_false] at hu
  rcases hu with rfl
  rfl

/-- What Numbers has made of a text of letters. -/
def NumGood (s : ByteArray) (w : World) (e : Ending) (w' : World) : Prop :=
  ∃ (A : Option Addr) (c : Nat) (o : List Int) (a er : Nat), e = .returned (.tuple #[.slice A o.length c, .int .i64 (a : Nat), .int .i64 (er : Nat)]) ∧
    ((40000 < s.size ∧ o = [] ∧ a = 0 ∧ er = 4) ∨ (s.size ≤ 40000 ∧ ((∃ o', numsF s.data.toList 0 0 0 = (o', some a) ∧ o = [] ∧ er = 21) ∨ (numsF s.data.toList 0 0 0 = (o, none) ∧ a = 0 ∧ er = 0)))) ∧
    w'.ownsRow w.heap.size 3 1 (.slice A o.length c) o.length (o.map (Value.int .i64)) ∧ Below w.heap.size w w'
theorem num_err {s : ByteArray} {w w' : World} {o : List Int} {a : Nat} (hs : s.size ≤ 40000) (h : numsF s.data.toList 0 0 0 = (o, some a)) (hb : Below w.heap.size w w') :
    NumGood s w (.returned (.tuple #[.slice none 0 0, .int .i64 (a : Nat), .int .i64 21])) w' :=
  ⟨none, 0, [], a, 21, rfl, .inr ⟨hs, .inl ⟨o, h, rfl, rfl⟩⟩, World.ownsRow_nil _ _ _ _, hb⟩

structure NumRel (s : ByteArray) (w : World) (v : Value) (k high : Nat) (last : Int) (o : List Int) (wr : World) : Prop where
  at_ : NumAt s.data.toList k high last o
  len : o.length ≤ k
  own : wr.ownsRow w.heap.size 3 1 v o.length (o.map (Value.int .i64))
  bel : Below w.heap.size w wr
  hi : high ≤ 1000000
theorem NumRel.push {s : ByteArray} {w wr w2 : World} {v v2 : Value} {k high high' : Nat} {last last' x : Int} {o : List Int} {ob : Obj} (h : NumRel s w v k high last o wr) (ha : NumAt s.data.toList (k + 1) high' last' (o ++ [x])) (hh : high' ≤ 1000000)
    (hg : (wr.alloc ob).grownBy w2 v.ownBlock) (hown : w2.ownsRow w.heap.size 3 1 v2 (o.length + 1) (o.map (Value.int .i64) ++ [.int .i64 x])) : NumRel s w v2 (k + 1) high' last' (o ++ [x]) w2 := by
  have hsz := h.bel.size
  refine ⟨ha, by have := h.len; simp; omega, ?_, (h.bel.alloc hsz _).grown hg (by simp; omega) (fun q hq => (h.own.lt q hq).1), hh⟩
  rw [List.length_append, List.map_append]
  exact hown

set_option maxHeartbeats 3200000 in
set_option maxRecDepth 8000 in
theorem rnumbers_any (s : ByteArray) (w : World) : Calls Try.prog 24 #[.string s] w (NumGood s w) := by
  obtain ⟨i0, hi0, hz0, hz1, hz2⟩ := info_parts infoInt
  by_cases hbig : 40000 < (s.size : Int)
  · go_enter Try.func24, Try.ntmps24
    go_wp2
    go_ret3
    exact ⟨none, 0, [], 0, 4, rfl, .inl ⟨by omega, rfl, rfl, rfl⟩, World.ownsRow_nil _ _ _ _, Below.refl _ _⟩
  · have hs : s.size ≤ 40000 := by omega
    go_enter Try.func24, Try.ntmps24
    go_wp2
    go_loopw [5, 6, 7] (fun v r i wr => ∃ (k high : Nat) (o : List Int), k ≤ s.size ∧ i = .int .i64 k ∧ r = .int .i64 high ∧ NumRel s w v k high (lastOf o) o wr) (fun _ _ i _ => s.size - (intOf i).toNat)
    case atStart =>
      exact ⟨0, 0, [], Nat.zero_le _, rfl, rfl, NumAt.start, Nat.le_refl _, World.ownsRow_made _ _ _ (Nat.le_refl _) (by simp [maxLen]) rfl, (Below.refl _ _).alloc (Nat.le_refl _) _, by omega⟩
    case round =>
      obtain ⟨k, high, o, hk, rfl, rfl, hrel⟩ := hrel
      have Rel := Lib.hid hrel
      have hhi := hrel.hi
      have hln := hrel.len
      obtain ⟨A, cp, rfl⟩ := own_slice hrel.own
      clear hrel
      by_cases hlt : k < s.size
      · have hb : Hid (s.data.toList[k]? = some s[k]) := byteAt s k hlt
        have h255 : (s[k]).toNat ≤ 255 := by have := s[k].toNat_lt; omega
        have h63 : o.length + 1 ≤ maxLen := by simp only [maxLen]; omega
        have hby : (o.length + 1) * 8 ≤ 140737488355328 := by omega
        have hbs : Hid (∀ ob, w.heap.size ≤ (wr.alloc ob).heap.size) := fun ob => by have := Rel.out.bel.size; simp; omega
        rcases (show ((s[k]).toNat < 63 ∨ (s[k]).toNat = 64 ∨ 90 < (s[k]).toNat) ∨ (65 ≤ (s[k]).toNat ∧ (s[k]).toNat ≤ 84) ∨ (85 ≤ (s[k]).toNat ∧ (s[k]).toNat ≤ 89) ∨ (s[k]).toNat = 90 ∨ (s[k]).toNat = 63 by omega) with h | ⟨g1, g2⟩ | ⟨g1, g2⟩ | h | h
        · -- no letter
          have He := Lib.hid (Rel.out.at_.bad hb.out (by omega) (by omega) (by omega) (by omega))
          have e90 : (((s[k]).toNat : Int) == 90) = false := by rw [beq_eq_false_iff_ne]; omega
          have e63 : (((s[k]).toNat : Int) == 63) = false := by rw [beq_eq_false_iff_ne]; omega
          rcases h with h | h | h
          all_goals
            go_wp2
            go_ret3
            exact num_err hs He.out Rel.out.bel
        · -- a last digit
          have e90 : (((s[k]).toNat : Int) == 90) = false := by rw [beq_eq_false_iff_ne]; omega
          have e63 : (((s[k]).toNat : Int) == 63) = false := by rw [beq_eq_false_iff_ne]; omega
          by_cases hm : high * 20 + ((s[k]).toNat - 65) + 1 ≤ 1000000
          · have hle : 20 * (high : Int) + (((s[k]).toNat : Int) - 65) + 1 ≤ 1000000 := by omega
            have Hx := Lib.hid (show ((high * 20 + ((s[k]).toNat - 65) + 1 : Nat) : Int) = 20 * (high : Int) + (((s[k]).toNat : Int) - 65) + 1 by omega)
            have Ha := Lib.hid (Rel.out.at_.digit hb.out ⟨g1, g2⟩ rfl hm)
            clear hm
            go_wp2_with (at_builtin; go_must (refine wpList_append_own _ rfl (.tmp 43) (.tmp 51) 23 rfl w.heap.size 3 i0 (.int .i64 0) 1 8 Try.underlying23 hi0 hz0 hz1 hz2 rfl (by decide) _ _ _ rfl (Rel.out.own.alloc _) ⟨wr.heap.size, 0, none⟩ 1 1 [.int .i64 (20 * (high : Int) + (((s[k]).toNat : Int) - 65) + 1)] rfl rfl (fun j u hu => one_new wr _ _ hu) (one_int _) h63 hby (hbs.out _) ?_); intro v2 w3 hown3 hgrow3 _)
            go_light
            rw [Hx.out] at Ha
            refine ⟨⟨k + 1, 0, o ++ [20 * (high : Int) + (((s[k]).toNat : Int) - 65) + 1], by omega, by go_num, rfl, ?_⟩, by simp [intOf]; omega⟩
            rw [lastOf_snoc]
            exact Rel.out.push Ha.out (by omega) hgrow3 hown3
          · have hle : ¬ 20 * (high : Int) + (((s[k]).toNat : Int) - 65) + 1 ≤ 1000000 := by omega
            have He := Lib.hid (Rel.out.at_.digit_big hb.out ⟨g1, g2⟩ (by omega))
            clear hm
            go_wp2
            go_ret3
            exact num_err hs He.out Rel.out.bel
        · -- a digit ahead
          have e90 : (((s[k]).toNat : Int) == 90) = false := by rw [beq_eq_false_iff_ne]; omega
          have e63 : (((s[k]).toNat : Int) == 63) = false := by rw [beq_eq_false_iff_ne]; omega
          by_cases hm : high * 5 + ((s[k]).toNat - 85) + 1 ≤ 1000000
          · have hle : 5 * (high : Int) + (((s[k]).toNat : Int) - 85) + 1 ≤ 1000000 := by omega
            have Hx := Lib.hid (show 5 * (high : Int) + (((s[k]).toNat : Int) - 85) + 1 = ((high * 5 + ((s[k]).toNat - 85) + 1 : Nat) : Int) by omega)
            have Ha := Lib.hid (Rel.out.at_.up hb.out ⟨g1, g2⟩ rfl hm)
            have Hm := Lib.hid hm
            clear hm
            go_wp2
            go_light
            exact ⟨⟨k + 1, high * 5 + ((s[k]).toNat - 85) + 1, o, by omega, by go_num, by rw [Hx.out], Ha.out, by omega, Rel.out.own, Rel.out.bel, Hm.out⟩, by simp [intOf]; omega⟩
          · have hle : ¬ 5 * (high : Int) + (((s[k]).toNat : Int) - 85) + 1 ≤ 1000000 := by omega
            have He := Lib.hid (Rel.out.at_.up_big hb.out ⟨g1, g2⟩ (by omega))
            clear hm
            go_wp2
            go_ret3
            exact num_err hs He.out Rel.out.bel
        · -- a Z
          have e90 : (((s[k]).toNat : Int) == 90) = true := by rw [beq_iff_eq]; omega
          have e63 : (((s[k]).toNat : Int) == 63) = false := by rw [beq_eq_false_iff_ne]; omega
          by_cases h0 : high = 0
          · subst h0
            rcases Nat.eq_zero_or_pos o.length with hz | hpos
            · have ho : o = [] := List.eq_nil_of_length_eq_zero hz
              subst ho
              have He := Lib.hid (Rel.out.at_.bad hb.out (by omega) (by omega) (fun h => by have := h.2.2; simp [lastOf_nil] at this) (by omega))
              go_wp2
              go_ret3
              exact num_err hs He.out Rel.out.bel
            · obtain ⟨g, rfl, hg1, hg2⟩ := own_at Rel.out.own hpos
              obtain ⟨m, hm⟩ : ∃ m, o.length = m + 1 := ⟨o.length - 1, by omega⟩
              have hcell : wr.cell? ⟨g, m, none⟩ = some (.int .i64 (lastOf o)) := by
                rw [Rel.out.own.cellAt m (by omega), List.getElem?_map, show m = o.length - 1 by omega, lastOf_get o hpos]
                rfl
              have hmi : ((m + 1 : Nat) : Int) - 1 = (m : Int) := by omega
              have Hm := Lib.hid hm
              have hm4 : m < 40000 := by omega
              by_cases hl : 0 < lastOf o
              · have Ha := Lib.hid (Rel.out.at_.save hb.out h hl)
                rw [hm]
                clear hm
                have Hown := Lib.hid (show wr.ownsRow w.heap.size 3 1 (.slice (some ⟨g, 0, none⟩) (m + 1) cp) (m + 1) (o.map (Value.int .i64)) by have := Rel.out.own; rw [Hm.out] at this; exact this)
                go_wp2_with (at_builtin; go_must (refine wpList_append_own _ rfl (.tmp 96) (.tmp 97) 23 rfl w.heap.size 3 i0 (.int .i64 0) 1 8 Try.underlying23 hi0 hz0 hz1 hz2 rfl (by decide) _ _ _ rfl (Hown.out.alloc _) ⟨wr.heap.size, 0, none⟩ 1 1 [.int .i64 0] rfl rfl (fun j u hu => one_new wr _ _ hu) (one_int _) (by rw [← Hm.out]; exact h63) (by rw [← Hm.out]; exact hby) (hbs.out _) ?_); intro v2 w3 hown3 hgrow3 _)
                go_light
                refine ⟨⟨k + 1, 0, o ++ [0], by omega, by go_num, rfl, ?_⟩, by simp [intOf]; omega⟩
                rw [lastOf_snoc]
                exact Rel.out.push Ha.out (by omega) (by rw [Hm.out]; exact hgrow3) (by rw [Hm.out]; exact hown3)
              · have He := Lib.hid (Rel.out.at_.bad hb.out (by omega) (by omega) (fun h => hl h.2.2) (by omega))
                rw [hm]
                clear hm
                go_wp2
                go_ret3
                exact num_err hs He.out Rel.out.bel
          · have h0' : ((high : Int) == 0) = false := by rw [beq_eq_false_iff_ne]; omega
            have He := Lib.hid (Rel.out.at_.bad hb.out (by omega) (by omega) (fun h => h0 h.2.1) (by omega))
            clear h0
            go_wp2
            go_ret3
            exact num_err hs He.out Rel.out.bel
        · -- an unknown one
          have e90 : (((s[k]).toNat : Int) == 90) = false := by rw [beq_eq_false_iff_ne]; omega
          have e63 : (((s[k]).toNat : Int) == 63) = true := by rw [beq_iff_eq]; omega
          by_cases h0 : high = 0
          · subst h0
            have Ha := Lib.hid (Rel.out.at_.ask hb.out h)
            go_wp2_with (at_builtin; go_must (refine wpList_append_own _ rfl (.tmp 106) (.tmp 107) 23 rfl w.heap.size 3 i0 (.int .i64 0) 1 8 Try.underlying23 hi0 hz0 hz1 hz2 rfl (by decide) _ _ _ rfl (Rel.out.own.alloc _) ⟨wr.heap.size, 0, none⟩ 1 1 [.int .i64 (-1)] rfl rfl (fun j u hu => one_new wr _ _ hu) (one_int _) h63 hby (hbs.out _) ?_); intro v2 w3 hown3 hgrow3 _)
            go_light
            refine ⟨⟨k + 1, 0, o ++ [-1], by omega, by go_num, rfl, ?_⟩, by simp [intOf]; omega⟩
            rw [lastOf_snoc]
            exact Rel.out.push Ha.out (by omega) hgrow3 hown3
          · have h0' : ((high : Int) == 0) = false := by rw [beq_eq_false_iff_ne]; omega
            have He := Lib.hid (Rel.out.at_.bad hb.out (by omega) (by omega) (by omega) (fun h => h0 h.2))
            clear h0
            go_wp2
            go_ret3
            exact num_err hs He.out Rel.out.bel
      · obtain rfl : k = s.size := by omega
        have hend := Lib.hid (Rel.out.at_.end_ (by simp))
        by_cases h0 : high = 0
        · subst h0
          go_wp2
          go_ret3
          exact ⟨A, cp, o, 0, 0, rfl, .inr ⟨hs, .inr ⟨hend.out, rfl, rfl⟩⟩, Rel.out.own, Rel.out.bel⟩
        · have h0' : ((high : Int) != 0) = true := by rw [bne_iff_ne]; omega
          have hend' := Lib.hid (show numsF s.data.toList 0 0 0 = (o, some s.size) by rw [hend.out, if_pos (by omega)])
          clear hend
          go_wp2
          go_ret3
          exact num_err hs hend'.out Rel.out.bel
end Go.Proofs.Ytjdomdeejibnmaa.Tok
