/- Contracts of pop, concat, compare and split. -/
import Derived.Test.YtdffgkhlkbaecaaTreeJoin
import Derived.Deep.QuietTactic
import Derived.BigQuiet
namespace Go.Proofs.Ytdffgkhlkbaecaa.Tok
open Go.RowKit Go.Proofs.Ytdffgkhlkbaecaa

theorem below_drewN' {B : Nat} {a w : World} (h : Below B a w) (n : Nat) : Below B a (w.drewN n) := ⟨h.os, h.tape, h.output, h.size, h.block⟩
/-- Two pointers, and nothing that was there turned. -/
def Makes2 {α : Type} (kv : α → Value) (T : TypeId) (w : World) (t u : Tr α) (e : Ending) (w' : World) : Prop := ∃ p q, e = .returned (.tuple #[.pointer p, .pointer q]) ∧ Is kv T w' p t ∧ Is kv T w' q u ∧ Below w.heap.size w w'
def Pops {α : Type} (kv : α → Value) (T : TypeId) (w : World) (k : α) (x : Int) (u : Tr α) (e : Ending) (w' : World) : Prop := ∃ p q, e = .returned (.tuple #[.pointer p, .pointer q]) ∧ Hd w' p (kv k) x ∧ Is kv T w' q u ∧ Below w.heap.size w w'

set_option maxHeartbeats 1600000 in
set_option maxRecDepth 8000 in
theorem popS_any : ∀ (l r : Tr ByteArray) (k : ByteArray) (x : Int) (p : Option Addr) (w : World), Is Value.string 98 w p (.node k x l r) → l.size + r.size ≤ 1000000 →
    Calls Try.prog 61 #[.pointer p] w (Pops Value.string 98 w (Tr.pop k x l r).1.1 (Tr.pop k x l r).1.2 (Tr.pop k x l r).2) := by
  intro l
  induction l with
  | nil =>
    intro r k x p w h hs
    obtain ⟨b, lp, rp, rfl, hbl, c0, c1, c2, c3, c4, c5, h2, h3⟩ := h.node
    obtain rfl := Is.nil_iff.1 h2
    have HX : Hid (∀ n, Pops Value.string 98 w k x r (.returned (.tuple #[.pointer (some ⟨b, 0, none⟩), .pointer rp])) (w.drewN n)) := fun n =>
      have hb : Below w.heap.size w (w.drewN n) := below_drewN' (Below.refl _ _) n
      ⟨_, _, rfl, h.hd.below hb, h3.below hb, hb⟩
    clear h h2 h3 c0 c1 c4 c5 hs
    show Calls _ _ _ _ (Pops Value.string 98 w k x r)
    go_enter Try.func61, Try.ntmps61
    go_wp2
    go_quiet (fail)
    go_wp2
    go_ret2
    exact HX.out _
  | node lk lx ll lr ih1 ih2 =>
    intro r k x p w h hs
    clear ih2
    obtain ⟨b, lp, rp, rfl, hbl, c0, c1, c2, c3, c4, c5, h2, h3⟩ := h.node
    simp only [Tr.size] at hs
    have HI := Lib.hid (ih1 lr lk lx lp w h2 (by omega))
    have Hz := Lib.hid (Tr.size_pop lk lx ll lr)
    obtain ⟨b2, _, _, e2, _⟩ := h2.node
    have HB : Hid (∀ w1 q, Below w.heap.size w w1 → Is Value.string 98 w1 q (Tr.pop lk lx ll lr).2 → w1.cell? ⟨b, 3, none⟩ = some (.pointer rp) ∧ Calls Try.prog 59 #[.pointer q, .pointer (some ⟨b, 0, none⟩), .pointer rp] w1 (Makes Value.string 98 w1 (Tr.bal (Tr.pop lk lx ll lr).2 k x r))) := fun w1 q hb hq =>
      ⟨(hb.cell (p := ⟨b, 3, none⟩) hbl).trans c3, balS_any q (some ⟨b, 0, none⟩) rp _ r k x w1 hq (h.hd.below hb) (h3.below hb) (by rw [Hz.out]; omega)⟩
    show Calls _ _ _ _ (Pops Value.string 98 w (Tr.pop lk lx ll lr).1.1 (Tr.pop lk lx ll lr).1.2 (Tr.bal (Tr.pop lk lx ll lr).2 k x r))
    generalize (Tr.pop lk lx ll lr) = P at HI HB ⊢
    clear h h2 h3 c0 c1 c4 c5 ih1 Hz hs
    obtain ⟨⟨pk, px⟩, pt⟩ := P
    simp only at HI HB ⊢
    subst e2
    go_enter Try.func61, Try.ntmps61
    go_wp2_with fail
    refine (HI.out).mono ?_
    rintro e w1 ⟨p1, q1, rfl, h1, h2, hb1⟩
    obtain ⟨c3', hbal⟩ := HB.out w1 q1 hb1 h2
    have HBL := Lib.hid hbal
    clear hbal
    go_wp2_with fail
    refine (HBL.out).mono ?_
    rintro e w2 ⟨p2, rfl, h3, hb2⟩
    go_wp2
    go_ret2
    exact ⟨_, _, rfl, h1.below hb2, h3, hb1.trans (hb2.mono hb1.size)⟩

set_option maxHeartbeats 1600000 in
set_option maxRecDepth 8000 in
theorem concatS_any (l r : Tr ByteArray) (p q : Option Addr) (w : World) (hl : Is Value.string 98 w p l) (hr : Is Value.string 98 w q r) (hs : l.size + r.size ≤ 1000000) :
    Calls Try.prog 50 #[.pointer p, .pointer q] w (Makes Value.string 98 w (Tr.concat l r)) := by
  cases r with
  | nil =>
    obtain rfl := Is.nil_iff.1 hr
    have HL := Lib.hid hl
    clear hl hr hs
    show Calls _ _ _ _ (Makes Value.string 98 w l)
    go_enter Try.func50, Try.ntmps50
    go_wp2
    go_ret
    exact ⟨_, rfl, HL.out, Below.refl _ _⟩
  | node k x rl rr =>
    simp only [Tr.size] at hs
    have HI := Lib.hid (popS_any rl rr k x q w hr (by omega))
    have Hz := Lib.hid (Tr.size_pop k x rl rr)
    obtain ⟨b2, _, _, e2, _⟩ := hr.node
    have HB : Hid (∀ w1 nv q, Below w.heap.size w w1 → Hd w1 nv (.string (Tr.pop k x rl rr).1.1) (Tr.pop k x rl rr).1.2 → Is Value.string 98 w1 q (Tr.pop k x rl rr).2 → Calls Try.prog 46 #[.pointer p, .pointer nv, .pointer q] w1 (Makes Value.string 98 w1 (Tr.join l (Tr.pop k x rl rr).1.1 (Tr.pop k x rl rr).1.2 (Tr.pop k x rl rr).2))) := fun w1 nv q hb hn hq =>
      joinS_any p nv q l _ _ _ w1 (hl.below hb) hn hq (by rw [Hz.out]; omega)
    show Calls _ _ _ _ (Makes Value.string 98 w (Tr.join l (Tr.pop k x rl rr).1.1 (Tr.pop k x rl rr).1.2 (Tr.pop k x rl rr).2))
    generalize (Tr.pop k x rl rr) = P at HI HB ⊢
    clear hl hr hs Hz
    obtain ⟨⟨pk, px⟩, pt⟩ := P
    simp only at HI HB ⊢
    subst e2
    go_enter Try.func50, Try.ntmps50
    go_wp2_with fail
    refine (HI.out).mono ?_
    rintro e w1 ⟨p1, q1, rfl, h1, h2, hb1⟩
    have HBL := Lib.hid (HB.out w1 p1 q1 hb1 h1 h2)
    go_wp2_with fail
    refine (HBL.out).mono ?_
    rintro e w2 ⟨p2, rfl, h3, hb2⟩
    go_wp2
    go_ret
    exact ⟨_, rfl, h3, hb1.trans (hb2.mono hb1.size)⟩

/-- What two strings are compared to. -/
def cmpS (a b : ByteArray) : Int := if Op.bytesLess a.toList b.toList then -1 else if a.toList == b.toList then 0 else 1
theorem cmpS_cases (a b : ByteArray) : (Op.bytesLess a.toList b.toList = true ∧ cmpS a b = -1) ∨ (Op.bytesLess a.toList b.toList = false ∧ (a.toList == b.toList) = true ∧ cmpS a b = 0) ∨ (Op.bytesLess a.toList b.toList = false ∧ (a.toList == b.toList) = false ∧ cmpS a b = 1) := by
  unfold cmpS
  cases Op.bytesLess a.toList b.toList <;> cases (a.toList == b.toList) <;> simp

set_option maxHeartbeats 800000 in
theorem nanS_any (a : ByteArray) (w : World) : Calls Try.prog 62 #[.string a] w fun e w' => e = .returned (.bool false) ∧ w' = w := by
  go_enter Try.func62, Try.ntmps62
  go_wp2
  go_ret
  exact ⟨by simp, rfl⟩
set_option maxHeartbeats 800000 in
theorem compS_any (a b : ByteArray) (w : World) : Calls Try.prog 51 #[.string a, .string b] w fun e w' => e = .returned (.int .i64 (cmpS a b)) ∧ w' = w := by
  rcases cmpS_cases a b with ⟨t1, h⟩ | ⟨t1, t2, h⟩ | ⟨t1, t2, h⟩
  all_goals
    rw [h]
    clear h
    go_enter Try.func51, Try.ntmps51
    go_wp2_with fail
    refine (nanS_any a _).mono ?_
    rintro e w' ⟨rfl, hw⟩; obtain rfl := hw.symm; clear hw
    go_wp2_with fail
    refine (nanS_any b _).mono ?_
    rintro e w' ⟨rfl, hw⟩; obtain rfl := hw.symm; clear hw
    go_wp2
    go_ret
    exact ⟨rfl, rfl⟩
set_option maxHeartbeats 800000 in
theorem pivotS_any (a b : ByteArray) (w : World) : Calls Try.prog 45 #[.agg #[.string a], .string b] w fun e w' => e = .returned (.int .i64 (cmpS a b)) ∧ Below w.heap.size w w' := by
  go_enter Try.func45, Try.ntmps45
  go_wp2_with fail
  refine (compS_any a b _).mono ?_
  rintro e w' ⟨rfl, rfl⟩
  go_wp2
  go_ret
  exact ⟨rfl, (Below.refl _ _).alloc (Nat.le_refl _) _⟩

set_option maxHeartbeats 3200000 in
set_option maxRecDepth 8000 in
theorem splitS_any (pk : ByteArray) : ∀ (t : Tr ByteArray) (p : Option Addr) (w : World), Is Value.string 98 w p t → t.size ≤ 1000000 →
    Calls Try.prog 44 #[.pointer p, .func (.func 45) #[.agg #[.string pk]] #[]] w (Makes2 Value.string 98 w (Tr.split (cmpS pk) t).1 (Tr.split (cmpS pk) t).2) := by
  intro t
  induction t with
  | nil =>
    intro p w h _
    obtain rfl := Is.nil_iff.1 h
    clear h
    show Calls _ _ _ _ (Makes2 Value.string 98 w .nil .nil)
    go_enter Try.func44, Try.ntmps44
    go_wp2
    go_ret2
    exact ⟨_, _, rfl, rfl, rfl, Below.refl _ _⟩
  | node k x l r ih1 ih2 =>
    intro p w h hs
    obtain ⟨b, lp, rp, rfl, hbl, c0, c1, c2, c3, c4, c5, h2, h3⟩ := h.node
    simp only [Tr.size] at hs
    have Hcc : Hid (∀ w1, Below w.heap.size w w1 → w1.cell? ⟨b, 2, none⟩ = some (.pointer lp) ∧ w1.cell? ⟨b, 3, none⟩ = some (.pointer rp)) := fun w1 hb => ⟨(hb.cell (p := ⟨b, 2, none⟩) hbl).trans c2, (hb.cell (p := ⟨b, 3, none⟩) hbl).trans c3⟩
    have Hhd := Lib.hid h.hd
    have H2 := Lib.hid h2
    have H3 := Lib.hid h3
    have I1 := Lib.hid ih1
    have I2 := Lib.hid ih2
    have Hz1 := Lib.hid (Tr.size_split (cmpS pk) l)
    have Hz2 := Lib.hid (Tr.size_split (cmpS pk) r)
    clear h h2 h3 c1 c4 c5 ih1 ih2 c2 c3
    rcases cmpS_cases pk k with ⟨_, hc⟩ | ⟨_, _, hc⟩ | ⟨_, _, hc⟩
    · rw [Tr.split_lt (by omega)]
      have Hc := Lib.hid hc
      clear hc Hz2 I2
      have HS : Hid (∀ w1, Below w.heap.size w w1 → Calls Try.prog 44 #[.pointer lp, .func (.func 45) #[.agg #[.string pk]] #[]] w1 (Makes2 Value.string 98 w1 (Tr.split (cmpS pk) l).1 (Tr.split (cmpS pk) l).2)) := fun w1 hb => I1.out lp w1 (H2.out.below hb) (by omega)
      have HJ : Hid (∀ w1 q, Below w.heap.size w w1 → Is Value.string 98 w1 q (Tr.split (cmpS pk) l).2 → Calls Try.prog 46 #[.pointer q, .pointer (some ⟨b, 0, none⟩), .pointer rp] w1 (Makes Value.string 98 w1 (Tr.join (Tr.split (cmpS pk) l).2 k x r))) := fun w1 q hb hq =>
        joinS_any q _ rp _ r k x w1 hq (Hhd.out.below hb) (H3.out.below hb) (by have := Hz1.out; omega)
      generalize Tr.split (cmpS pk) l = T at HS HJ
      clear I1 H2 H3 Hhd Hz1 hs
      go_enter Try.func44, Try.ntmps44
      go_wp2_with fail
      refine (pivotS_any pk k w).mono ?_
      rintro e w1 ⟨rfl, hb1⟩
      rw [Hc.out]
      obtain ⟨d2, d3⟩ := Hcc.out w1 hb1
      go_wp2_with fail
      refine (HS.out w1 hb1).mono ?_
      rintro e w2 ⟨p2, q2, rfl, g1, g2, hb2'⟩
      have hb2 := hb1.trans (hb2'.mono hb1.size)
      clear d2 d3
      obtain ⟨d2, d3⟩ := Hcc.out w2 hb2
      go_wp2_with fail
      refine (HJ.out w2 q2 hb2 g2).mono ?_
      rintro e w3 ⟨p3, rfl, g3, hb3⟩
      go_wp2
      go_ret2
      exact ⟨_, _, rfl, g1.below hb3, g3, hb2.trans (hb3.mono hb2.size)⟩
    · rw [Tr.split_eq (by omega)]
      have Hc := Lib.hid hc
      have HX : Hid (∀ w1, Below w.heap.size w w1 → Makes2 Value.string 98 w l r (.returned (.tuple #[.pointer lp, .pointer rp])) w1) := fun w1 hb => ⟨_, _, rfl, H2.out.below hb, H3.out.below hb, hb⟩
      clear hc Hz1 Hz2 I1 I2 H2 H3 Hhd hs
      go_enter Try.func44, Try.ntmps44
      go_wp2_with fail
      refine (pivotS_any pk k w).mono ?_
      rintro e w1 ⟨rfl, hb1⟩
      rw [Hc.out]
      obtain ⟨d2, d3⟩ := Hcc.out w1 hb1
      go_wp2
      go_quiet (fail)
      go_wp2
      go_ret2
      exact HX.out _ (below_drewN' hb1 _)
    · rw [Tr.split_gt (by omega)]
      have Hc := Lib.hid hc
      clear hc Hz1 I1
      have HS : Hid (∀ w1, Below w.heap.size w w1 → Calls Try.prog 44 #[.pointer rp, .func (.func 45) #[.agg #[.string pk]] #[]] w1 (Makes2 Value.string 98 w1 (Tr.split (cmpS pk) r).1 (Tr.split (cmpS pk) r).2)) := fun w1 hb => I2.out rp w1 (H3.out.below hb) (by omega)
      have HJ : Hid (∀ w1 q, Below w.heap.size w w1 → Is Value.string 98 w1 q (Tr.split (cmpS pk) r).1 → Calls Try.prog 46 #[.pointer lp, .pointer (some ⟨b, 0, none⟩), .pointer q] w1 (Makes Value.string 98 w1 (Tr.join l k x (Tr.split (cmpS pk) r).1))) := fun w1 q hb hq =>
        joinS_any lp _ q l _ k x w1 (H2.out.below hb) (Hhd.out.below hb) hq (by have := Hz2.out; omega)
      generalize Tr.split (cmpS pk) r = T at HS HJ
      clear I2 H2 H3 Hhd Hz2 hs
      go_enter Try.func44, Try.ntmps44
      go_wp2_with fail
      refine (pivotS_any pk k w).mono ?_
      rintro e w1 ⟨rfl, hb1⟩
      rw [Hc.out]
      obtain ⟨d2, d3⟩ := Hcc.out w1 hb1
      go_wp2_with fail
      refine (HS.out w1 hb1).mono ?_
      rintro e w2 ⟨p2, q2, rfl, g1, g2, hb2'⟩
      have hb2 := hb1.trans (hb2'.mono hb1.size)
      clear d2 d3
      obtain ⟨d2, d3⟩ := Hcc.out w2 hb2
      go_wp2_with fail
      refine (HJ.out w2 p2 hb2 g1).mono ?_
      rintro e w3 ⟨p3, rfl, g3, hb3⟩
      go_wp2
      go_ret2
      exact ⟨_, _, rfl, g3, g2.below hb3, hb2.trans (hb3.mono hb2.size)⟩
end Go.Proofs.Ytdffgkhlkbaecaa.Tok
