/- Contracts of pop, concat, compare and split. -/
import Derived.Test.YtdffgkhlkbaecaaITreeJoin
import Derived.Deep.QuietTactic
import Derived.BigQuiet
namespace Go.Proofs.Ytdffgkhlkbaecaa.Tok
open Go.RowKit Go.Proofs.Ytdffgkhlkbaecaa

theorem below_drewN'I {B : Nat} {a w : World} (h : Below B a w) (n : Nat) : Below B a (w.drewN n) := ⟨h.os, h.tape, h.output, h.size, h.block⟩
/-- Two pointers, and nothing that was there turned. -/
def Makes2I {α : Type} (kv : α → Value) (T : TypeId) (w : World) (t u : Tr α) (e : Ending) (w' : World) : Prop := ∃ p q, e = .returned (.tuple #[.pointer p, .pointer q]) ∧ Is kv T w' p t ∧ Is kv T w' q u ∧ Below w.heap.size w w'
def PopsI {α : Type} (kv : α → Value) (T : TypeId) (w : World) (k : α) (x : Int) (u : Tr α) (e : Ending) (w' : World) : Prop := ∃ p q, e = .returned (.tuple #[.pointer p, .pointer q]) ∧ Hd w' p (kv k) x ∧ Is kv T w' q u ∧ Below w.heap.size w w'

/-- What two ints are compared to. -/
def cmpSI (a b : Int) : Int := if a < b then -1 else if a = b then 0 else 1
theorem cmpS_casesI (a b : Int) : (a < b ∧ cmpSI a b = -1) ∨ (decide (a < b) = false ∧ (a == b) = true ∧ cmpSI a b = 0) ∨ (decide (a < b) = false ∧ (a == b) = false ∧ cmpSI a b = 1) := by
  unfold cmpSI
  rcases Int.lt_trichotomy a b with h | h | h
  · exact .inl ⟨h, if_pos h⟩
  · exact .inr (.inl ⟨decide_eq_false (by omega), beq_iff_eq.2 h, by rw [if_neg (by omega), if_pos h]⟩)
  · exact .inr (.inr ⟨decide_eq_false (by omega), beq_eq_false_iff_ne.2 (by omega), by rw [if_neg (by omega), if_neg (by omega)]⟩)

set_option maxHeartbeats 800000 in
theorem nanS_anyI (a : Int) (w : World) : Calls Try.prog 65 #[.int .i64 a] w fun e w' => e = .returned (.bool false) ∧ w' = w := by
  go_enter Try.func65, Try.ntmps65
  go_wp2
  go_ret
  exact ⟨by simp, rfl⟩
set_option maxHeartbeats 800000 in
theorem compS_anyI (a b : Int) (w : World) : Calls Try.prog 54 #[.int .i64 a, .int .i64 b] w fun e w' => e = .returned (.int .i64 (cmpSI a b)) ∧ w' = w := by
  rcases cmpS_casesI a b with ⟨t1, h⟩ | ⟨_, t1, h⟩ | ⟨t0, t1, h⟩
  all_goals
    rw [h]
    clear h
  · have g1 : decide (a < b) = true := decide_eq_true t1
    clear t1
    go_enter Try.func54, Try.ntmps54
    go_wp2_with fail
    refine (nanS_anyI a _).mono ?_
    rintro e w' ⟨rfl, hw⟩; obtain rfl := hw.symm; clear hw
    go_wp2_with fail
    refine (nanS_anyI b _).mono ?_
    rintro e w' ⟨rfl, hw⟩; obtain rfl := hw.symm; clear hw
    go_wp2
    go_ret
    exact ⟨rfl, rfl⟩
  · obtain rfl := eq_of_beq t1
    clear t1
    go_enter Try.func54, Try.ntmps54
    go_wp2_with fail
    refine (nanS_anyI a _).mono ?_
    rintro e w' ⟨rfl, hw⟩; obtain rfl := hw.symm; clear hw
    go_wp2_with fail
    refine (nanS_anyI a _).mono ?_
    rintro e w' ⟨rfl, hw⟩; obtain rfl := hw.symm; clear hw
    go_wp2
    go_ret
    exact ⟨rfl, rfl⟩
  · have h0 := of_decide_eq_false t0
    have h1 := beq_eq_false_iff_ne.1 t1
    have g1 : decide (a < b) = false := t0
    have g2 : decide (b < a) = true := decide_eq_true (by omega)
    clear t0 t1 h0 h1
    go_enter Try.func54, Try.ntmps54
    go_wp2_with fail
    refine (nanS_anyI a _).mono ?_
    rintro e w' ⟨rfl, hw⟩; obtain rfl := hw.symm; clear hw
    go_wp2_with fail
    refine (nanS_anyI b _).mono ?_
    rintro e w' ⟨rfl, hw⟩; obtain rfl := hw.symm; clear hw
    go_wp2
    go_ret
    exact ⟨rfl, rfl⟩
set_option maxHeartbeats 800000 in
theorem pivotS_anyI (a b : Int) (w : World) : Calls Try.prog 37 #[.agg #[.int .i64 a], .int .i64 b] w fun e w' => e = .returned (.int .i64 (cmpSI a b)) ∧ Below w.heap.size w w' := by
  go_enter Try.func37, Try.ntmps37
  go_wp2_with fail
  refine (compS_anyI a b _).mono ?_
  rintro e w' ⟨rfl, rfl⟩
  go_wp2
  go_ret
  exact ⟨rfl, (Below.refl _ _).alloc (Nat.le_refl _) _⟩

set_option maxHeartbeats 3200000 in
set_option maxRecDepth 8000 in
theorem splitS_anyI (pk : Int) : ∀ (t : Tr Int) (p : Option Addr) (w : World), Is (Value.int .i64) 86 w p t → t.size ≤ 1000000 →
    Calls Try.prog 36 #[.pointer p, .func (.func 37) #[.agg #[.int .i64 pk]] #[]] w (Makes2I (Value.int .i64) 86 w (Tr.split (cmpSI pk) t).1 (Tr.split (cmpSI pk) t).2) := by
  intro t
  induction t with
  | nil =>
    intro p w h _
    obtain rfl := Is.nil_iff.1 h
    clear h
    show Calls _ _ _ _ (Makes2I (Value.int .i64) 86 w .nil .nil)
    go_enter Try.func36, Try.ntmps36
    go_wp2
    go_ret2
    exact ⟨_, _, rfl, rfl, rfl, Below.refl _ _⟩
  | node k x l r ih1 ih2 =>
    intro p w h hs
    obtain ⟨b, lp, rp, rfl, hbl, c0, c1, c2, c3, c4, c5, h2, h3⟩ := h.node
    simp only [Tr.size] at hs
    have Hcc : Hid (∀ w1, Below w.heap.size w w1 → w1.cell? ⟨b, 2, none⟩ = some (.pointer lp) ∧ w1.cell? ⟨b, 3, none⟩ = some (.pointer rp)) := fun w1 hb => ⟨(hb.cell (p := ⟨b, 2, none⟩) hbl).trans c2, (hb.cell (p := ⟨b, 3, none⟩) hbl).trans c3⟩
    have Hhd := Lib.hid h.hd
    have H2 := Lib.hid h2
    have H3 := Lib.hid h3
    have I1 := Lib.hid ih1
    have I2 := Lib.hid ih2
    have Hz1 := Lib.hid (Tr.size_split (cmpSI pk) l)
    have Hz2 := Lib.hid (Tr.size_split (cmpSI pk) r)
    clear h h2 h3 c1 c4 c5 ih1 ih2 c2 c3
    rcases cmpS_casesI pk k with ⟨_, hc⟩ | ⟨_, _, hc⟩ | ⟨_, _, hc⟩
    · rw [Tr.split_lt (by omega)]
      have Hc := Lib.hid hc
      clear hc Hz2 I2
      have HS : Hid (∀ w1, Below w.heap.size w w1 → Calls Try.prog 36 #[.pointer lp, .func (.func 37) #[.agg #[.int .i64 pk]] #[]] w1 (Makes2I (Value.int .i64) 86 w1 (Tr.split (cmpSI pk) l).1 (Tr.split (cmpSI pk) l).2)) := fun w1 hb => I1.out lp w1 (H2.out.below hb) (by omega)
      have HJ : Hid (∀ w1 q, Below w.heap.size w w1 → Is (Value.int .i64) 86 w1 q (Tr.split (cmpSI pk) l).2 → Calls Try.prog 38 #[.pointer q, .pointer (some ⟨b, 0, none⟩), .pointer rp] w1 (MakesI (Value.int .i64) 86 w1 (Tr.join (Tr.split (cmpSI pk) l).2 k x r))) := fun w1 q hb hq =>
        joinS_anyI q _ rp _ r k x w1 hq (Hhd.out.below hb) (H3.out.below hb) (by have := Hz1.out; omega)
      generalize Tr.split (cmpSI pk) l = T at HS HJ
      clear I1 H2 H3 Hhd Hz1 hs
      go_enter Try.func36, Try.ntmps36
      go_wp2_with fail
      refine (pivotS_anyI pk k w).mono ?_
      rintro e w1 ⟨rfl, hb1⟩
      rw [Hc.out]
      obtain ⟨d2, d3⟩ := Hcc.out w1 hb1
      go_wp2_with fail
      refine (HS.out w1 hb1).mono ?_
      rintro e w2 ⟨p2, q2, rfl, g1, g2, hb2'⟩
      have hb2 := hb1.trans (hb2'.mono hb1.size)
      clear d2 d3
      obtain ⟨d2, d3⟩ := Hcc.out w2 hb2
      go_wp2_with fail
      refine (HJ.out w2 q2 hb2 g2).mono ?_
      rintro e w3 ⟨p3, rfl, g3, hb3⟩
      go_wp2
      go_ret2
      exact ⟨_, _, rfl, g1.below hb3, g3, hb2.trans (hb3.mono hb2.size)⟩
    · rw [Tr.split_eq (by omega)]
      have Hc := Lib.hid hc
      have HX : Hid (∀ w1, Below w.heap.size w w1 → Makes2I (Value.int .i64) 86 w l r (.returned (.tuple #[.pointer lp, .pointer rp])) w1) := fun w1 hb => ⟨_, _, rfl, H2.out.below hb, H3.out.below hb, hb⟩
      clear hc Hz1 Hz2 I1 I2 H2 H3 Hhd hs
      go_enter Try.func36, Try.ntmps36
      go_wp2_with fail
      refine (pivotS_anyI pk k w).mono ?_
      rintro e w1 ⟨rfl, hb1⟩
      rw [Hc.out]
      obtain ⟨d2, d3⟩ := Hcc.out w1 hb1
      go_wp2
      go_quiet (fail)
      go_wp2
      go_ret2
      exact HX.out _ (below_drewN'I hb1 _)
    · rw [Tr.split_gt (by omega)]
      have Hc := Lib.hid hc
      clear hc Hz1 I1
      have HS : Hid (∀ w1, Below w.heap.size w w1 → Calls Try.prog 36 #[.pointer rp, .func (.func 37) #[.agg #[.int .i64 pk]] #[]] w1 (Makes2I (Value.int .i64) 86 w1 (Tr.split (cmpSI pk) r).1 (Tr.split (cmpSI pk) r).2)) := fun w1 hb => I2.out rp w1 (H3.out.below hb) (by omega)
      have HJ : Hid (∀ w1 q, Below w.heap.size w w1 → Is (Value.int .i64) 86 w1 q (Tr.split (cmpSI pk) r).1 → Calls Try.prog 38 #[.pointer lp, .pointer (some ⟨b, 0, none⟩), .pointer q] w1 (MakesI (Value.int .i64) 86 w1 (Tr.join l k x (Tr.split (cmpSI pk) r).1))) := fun w1 q hb hq =>
        joinS_anyI lp _ q l _ k x w1 (H2.out.below hb) (Hhd.out.below hb) hq (by have := Hz2.out; omega)
      generalize Tr.split (cmpSI pk) r = T at HS HJ
      clear I2 H2 H3 Hhd Hz2 hs
      go_enter Try.func36, Try.ntmps36
      go_wp2_with fail
      refine (pivotS_anyI pk k w).mono ?_
      rintro e w1 ⟨rfl, hb1⟩
      rw [Hc.out]
      obtain ⟨d2, d3⟩ := Hcc.out w1 hb1
      go_wp2_with fail
      refine (HS.out w1 hb1).mono ?_
      rintro e w2 ⟨p2, q2, rfl, g1, g2, hb2'⟩
      have hb2 := hb1.trans (hb2'.mono hb1.size)
      clear d2 d3
      obtain ⟨d2, d3⟩ := Hcc.out w2 hb2
      go_wp2_with fail
      refine (HJ.out w2 p2 hb2 g1).mono ?_
      rintro e w3 ⟨p3, rfl, g3, hb3⟩
      go_wp2
      go_ret2
      exact ⟨_, _, rfl, g3, g2.below hb3, hb2.trans (hb3.mono hb2.size)⟩
end Go.Proofs.Ytdffgkhlkbaecaa.Tok
