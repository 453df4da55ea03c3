/- The library's iterator over parts of a slice: what it yields, for every loop body. -/
import Derived.RangeFuncNested
import Derived.RangeFuncBound
import Derived.RangeFuncCalls
import Derived.RangeFuncLeaves
import Derived.RangeFuncKeeps
import Derived.Shelf.Abstract
import Derived.Shelf.RegionOpen
import Derived.Sort.QuietIn
import Derived.WalkKit
import Derived.OwnWalkIn
import Derived.TacticsInMore
import Derived.LoopNIn
import Derived.LoopIn
import Derived.Test.YtjdomdeejibnmaaWriteMath8
namespace Go.Proofs.Ytjdomdeejibnmaa.Tok
open Go.RowKit Go.Shelf Go.Proofs.Ytjdomdeejibnmaa
attribute [local go_sem] Oper.semAt_some

/-- Where the parts begin, and how long they are. -/
abbrev Seg (m : Nat) := { x : Nat × Nat // x.1 + x.2 ≤ m }
def segN (K m : Nat) : Nat → Nat → List (Seg m)
  | 0, _ => []
  | f + 1, i => if h : m ≤ i then [] else ⟨(i, min K (m - i)), by show i + _ ≤ m; omega⟩ :: segN K m f (i + K)
def segF (K m : Nat) : List (Seg m) := segN K m m 0
theorem seg_len (K m f : Nat) : ∀ i, (segN K m f i).length ≤ f := by
  induction f with
  | zero => intro i; simp [segN]
  | succ f ih =>
    intro i
    unfold segN
    split
    · simp
    · have := ih (i + K)
      simp only [List.length_cons]
      omega
theorem seg_chunks (K : Nat) (bs : List UInt8) (f : Nat) : ∀ i, (segN K bs.length f i).map (fun x => (bs.drop x.1.1).take x.1.2) = chunksN K f (bs.drop i) := by
  induction f with
  | zero => intro i; rfl
  | succ f ih =>
    intro i
    by_cases h : bs.length ≤ i
    · rw [segN, dif_pos h, List.drop_eq_nil_of_le h, chunks_nil]
      rfl
    · have hne : bs.drop i ≠ [] := fun e => by have := congrArg List.length e; simp at this; omega
      rw [segN, dif_neg h, chunks_cons hne, List.map_cons, ih, List.drop_drop]
      congr 1
      show (bs.drop i).take (min K (bs.length - i)) = (bs.drop i).take K
      rcases Nat.le_total K (bs.length - i) with h1 | h1
      · simp [Nat.min_eq_left h1]
      · rw [Nat.min_eq_right h1, List.take_of_length_le (by simp), List.take_of_length_le (by simp; omega)]
def encS (g : Nat) {m : Nat} (x : Seg m) : Array Value := #[.slice (some ⟨g, x.1.1, none⟩) x.1.2 x.1.2]
/-- Both boxes still hold what they held. -/
def keep2 (B1 B2 : Nat) (W W' : World) : Prop := W'.cell? ⟨B1, 0, none⟩ = W.cell? ⟨B1, 0, none⟩ ∧ W'.cell? ⟨B2, 0, none⟩ = W.cell? ⟨B2, 0, none⟩
structure ChRel (K m B1 B2 : Nat) (u1 u2 : Value) (J : List (Seg m) → World → Prop) (i f : Nat) (pre : List (Seg m)) (wr : World) : Prop where
  eq : pre ++ segN K m f i = segF K m
  fuel : m - i ≤ f
  st : i = 0 ∨ K ≤ i
  cel1 : wr.cell? ⟨B1, 0, none⟩ = some u1
  cel2 : wr.cell? ⟨B2, 0, none⟩ = some u2
  j : J pre wr
section
variable {K m B1 B2 i f e : Nat} {u1 u2 : Value} {J : List (Seg m) → World → Prop} {pre : List (Seg m)} {wr w2 : World}
theorem ChRel.len (h : ChRel K m B1 B2 u1 u2 J i f pre wr) : pre.length < m + 1 := by
  have h1 := congrArg List.length h.eq
  have h2 := seg_len K m m 0
  rw [List.length_append] at h1
  unfold segF at h1
  omega
theorem ChRel.next (h : ChRel K m B1 B2 u1 u2 J i f pre wr) (hi : i < m) (he : e = min K (m - i)) (hx : i + e ≤ m) : ∃ f', f = f' + 1 ∧ (pre ++ [⟨(i, e), hx⟩]) ++ segN K m f' (i + K) = segF K m := by
  subst he
  have hf := h.fuel
  obtain ⟨f', rfl⟩ : ∃ f', f = f' + 1 := ⟨f - 1, by omega⟩
  have he := h.eq
  rw [segN, dif_neg (by omega)] at he
  exact ⟨f', rfl, by rw [List.append_assoc]; exact he⟩
theorem ChRel.push (h : ChRel K m B1 B2 u1 u2 J i f pre wr) (hi : i < m) (he : e = min K (m - i)) (hx : i + e ≤ m) (hK : 1 ≤ K) (hj : J (pre ++ [⟨(i, e), hx⟩]) w2) {w1 : World} (h1 : w1.cell? ⟨B1, 0, none⟩ = some u1) (h2 : w1.cell? ⟨B2, 0, none⟩ = some u2) (hk : keep2 B1 B2 w1 w2) :
    ∃ f', ChRel K m B1 B2 u1 u2 J (i + K) f' (pre ++ [⟨(i, e), hx⟩]) w2 := by
  obtain ⟨f', rfl, hq⟩ := h.next hi he hx
  exact ⟨f', hq, by have := h.fuel; omega, .inr (by omega), hk.1.trans h1, hk.2.trans h2, hj⟩
theorem ChRel.done (h : ChRel K m B1 B2 u1 u2 J i f pre wr) (hi : m ≤ i) : pre = segF K m := by
  have he := h.eq
  have e : segN K m f i = [] := by
    cases f with
    | zero => rfl
    | succ f => rw [segN, dif_pos hi]
  rwa [e, List.append_nil] at he
end

set_option maxRecDepth 100000 in
set_option maxHeartbeats 4000000 in
theorem chunk1_in (n : Nat) (hn : 1 ≤ n) (l B1 B2 : Nat) (A : Option Addr) (g m c K : Nat) (hA : 0 < m → A = some ⟨g, 0, none⟩) (hm : m ≤ 1000000) (hmc : m ≤ c) (hK : 1 ≤ K) (hK2 : K ≤ 9223372036854775807)
    (J Jx : List (Seg m) → World → Prop) (hJ : ∀ pre w q, J pre w → J pre (w.drewN q))
    (hY : ∀ pre x W, J pre W → pre.length < m + 1 → YieldAt Fence.wide (n - 1) Try.prog l (encS g x) W fun e W' =>
      (e = .returned (.bool true) ∧ J (pre ++ [x]) W' ∧ keep2 B1 B2 W W') ∨ (e = .returned (.bool false) ∧ Jx (pre ++ [x]) W'))
    (W : World) (hB1 : W.cell? ⟨B1, 0, none⟩ = some (.slice A m c)) (hB2 : W.cell? ⟨B2, 0, none⟩ = some (.int .i64 K)) (h0 : J [] W) :
    CallsIn Fence.wide n Try.prog 39 #[.func (.yield l) #[] #[], .pointer (some ⟨B1, 0, none⟩), .pointer (some ⟨B2, 0, none⟩)] W fun e W' => (∃ v, e = .returned v) ∧
      ((∃ ys, ys = segF K m ∧ J ys W') ∨ (∃ pre, pre <+: segF K m ∧ Jx pre W')) := by
  have HY := Lib.hid hY
  have HJ := Lib.hid hJ
  clear hY hJ
  refine callsIn_of_wp Try.func39 rfl trivial ?_ rfl
  simp only [Try.ntmps39, List.size_toArray, List.length_cons, List.length_nil, Nat.reduceAdd, Nat.reduceSub, Array.replicate_succ, Array.replicate_zero, List.push_toArray, List.append_toArray, List.nil_append, List.cons_append]
  gi_wp2
  gi_loopw [4] (fun iv wr => ∃ (i f : Nat) (pre : List (Seg m)), iv = .int .i64 i ∧ Hid (ChRel K m B1 B2 (.slice A m c) (.int .i64 K) J i f pre wr)) (fun iv _ => m - (intOf iv).toNat)
  case atStart => exact ⟨0, m, [], rfl, Lib.hid ⟨rfl, by omega, .inl rfl, hB1, hB2, h0⟩⟩
  case round =>
    obtain ⟨i, f, pre, rfl, hrel⟩ := hrel
    have d1 := hrel.out.cel1
    have d2 := hrel.out.cel2
    by_cases hlt : i < m
    · obtain rfl := hA (by omega)
      have hil : i ≤ m := by omega
      have hic : i ≤ c := by omega
      gi_wp2
      gi_quiet (fail)
      obtain ⟨e, he⟩ : ∃ e : Nat, e = min K (m - i) := ⟨_, rfl⟩
      have hei : min (K : Int) ((m - i : Nat) : Int) = (e : Int) := by omega
      rw [hei]
      obtain ⟨w3, hw3⟩ : ∃ w3, w3 = wr.drewN nq := ⟨_, rfl⟩
      have D1 : w3.cell? ⟨B1, 0, none⟩ = some (.slice (some ⟨g, 0, none⟩) m c) := by rw [hw3]; exact d1
      have D2 : w3.cell? ⟨B2, 0, none⟩ = some (.int .i64 K) := by rw [hw3]; exact d2
      have HJ3 : Hid (J pre w3) := by rw [hw3]; exact HJ.out _ _ _ hrel.out.j
      rw [← hw3]
      have hie : i + e ≤ m := by omega
      have he1 : 0 < e := by omega
      have hne : e ≠ 0 := by omega
      have hiec : i + e ≤ c := by omega
      have hst := hrel.out.st
      have hKi : i + K ≤ 9223372036854775807 := by omega
      have HE := Lib.hid he
      have Hlt := Lib.hid hlt
      obtain ⟨fn, tmps, assign, body, hy, hR⟩ := HY.out pre ⟨(i, e), hie⟩ w3 HJ3.out hrel.out.len
      dsimp only [encS] at hy
      clear d1 d2 he hw3 hst hei
      gi_wp2
      all_goals first | omega | skip
      refine hR.mono ?_
      rintro e2 W3 (⟨rfl, hJ3, hk3⟩ | ⟨rfl, hJx3⟩)
      · obtain ⟨f', hN⟩ := hrel.out.push Hlt.out HE.out hie hK hJ3 D1 D2 hk3
        have d1 := hN.cel1
        have d2 := hN.cel2
        have HN := Lib.hid hN
        clear hN hJ3 hk3 D1 D2
        gi_wp2
        go_roundw
        case rel => exact ⟨i + K, f', _, by go_num, HN.out⟩
        case measure => simp [intOf]; omega
      · gi_wp2
        refine bodyPost_ret (results_none rfl _ _ _) rfl ?_
        exact ⟨⟨_, rfl⟩, .inr ⟨_, by obtain ⟨f', _, h⟩ := hrel.out.next Hlt.out HE.out hie; exact ⟨_, h⟩, hJx3⟩⟩
    · have Hd := Lib.hid (hrel.out.done (by omega))
      gi_wp2
      go_end0
      exact ⟨⟨_, rfl⟩, .inl ⟨_, Hd.out, hrel.out.j⟩⟩
end Go.Proofs.Ytjdomdeejibnmaa.Tok
