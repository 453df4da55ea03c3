/- Histories: what the program makes of them. -/
import Derived.Test.YtefhnacbgpbdhaaProg
import Derived.Test.YtefhnacbgpbdhaaTreeMath
import Derived.ProofKit
import Derived.Outline
import Derived.Deep.Light
import Derived.Deep.QuietTactic
import Derived.BigQuiet
import Derived.WalkLawsBesides
import Derived.WalkSpells
import Derived.IntWalk
import Derived.Laws.AppendOwn
import Derived.Laws.OwnMore
namespace Go.Proofs.Ytefhnacbgpbdhaa.Tok
open Go.RowKit Go.Proofs.Ytefhnacbgpbdhaa

/-- Nothing that was there turned, but these blocks. -/
structure ButAt (bs : List Nat) (w w' : World) : Prop where
  os : w'.os = w.os
  tape : w'.tape = w.tape
  output : w'.output = w.output
  size : w.heap.size ≤ w'.heap.size
  block : ∀ k, k < w.heap.size → k ∉ bs → w'.heap[k]? = w.heap[k]?
theorem ButAt.refl (bs : List Nat) (w : World) : ButAt bs w w := ⟨rfl, rfl, rfl, Nat.le_refl _, fun _ _ _ => rfl⟩
theorem ButAt.trans {bs : List Nat} {w w1 w2 : World} (h : ButAt bs w w1) (h2 : ButAt bs w1 w2) : ButAt bs w w2 :=
  ⟨h2.os.trans h.os, h2.tape.trans h.tape, h2.output.trans h.output, Nat.le_trans h.size h2.size, fun k hk hn => (h2.block k (by have := h.size; omega) hn).trans (h.block k hk hn)⟩
theorem ButAt.of {bs : List Nat} {w w' : World} (h : Below w.heap.size w w') : ButAt bs w w' := ⟨h.os, h.tape, h.output, h.size, fun k hk _ => h.block k hk⟩
theorem ButAt.mono {bs cs : List Nat} {w w' : World} (h : ButAt bs w w') (hs : ∀ k ∈ bs, k ∈ cs) : ButAt cs w w' := ⟨h.os, h.tape, h.output, h.size, fun k hk hn => h.block k hk fun h1 => hn (hs k h1)⟩
theorem ButAt.below {bs : List Nat} {w w' : World} {base : Nat} (h : ButAt bs w w') (hb : base ≤ w.heap.size) (hs : ∀ k ∈ bs, base ≤ k) : Below base w w' :=
  ⟨h.os, h.tape, h.output, by have := h.size; omega, fun k hk => h.block k (by omega) fun h1 => by have := hs k h1; omega⟩
theorem ButAt.setCell {bs : List Nat} {w : World} {b i : Nat} (hb : b ∈ bs) (v : Value) : ButAt bs w (w.setCell ⟨b, i, none⟩ v) :=
  ⟨rfl, rfl, rfl, by simp, fun k _ hn => Below.heap_setCell _ _ _ _ fun h => hn (by rw [h]; exact hb)⟩
theorem ButAt.grown {bs : List Nat} {w w' : World} {row : Option Nat} (h : w.grownBy w' row) (hr : ∀ k, row = some k → k ∈ bs) : ButAt bs w w' :=
  ⟨h.os, h.tape, h.output, h.size, fun k hk hn => h.block k hk fun e => hn (hr k e.symm)⟩

/-- A history in memory: its block, its items' block. -/
structure Hist (base : Nat) (w : World) (g gi c : Nat) (vs : List Int) (cur : Nat) : Prop where
  row : w.heap[g]? = some (.cells #[.slice (some ⟨gi, 0, none⟩) vs.length c, .int .i64 (cur : Nat)] 144 (0, 0))
  own : w.ownsRow base 3 1 (.slice (some ⟨gi, 0, none⟩) vs.length c) vs.length (vs.map (Value.int .i64))
  lt : cur < vs.length
  le : vs.length ≤ 1000
  bg : base ≤ g
section
variable {base : Nat} {w w' : World} {g gi c : Nat} {vs : List Int} {cur : Nat}
theorem Hist.glt (h : Hist base w g gi c vs cur) : g < w.heap.size := by
  rcases Nat.lt_or_ge g w.heap.size with h1 | h1
  · exact h1
  · have := h.row; rw [Array.getElem?_eq_none h1] at this; cases this
theorem Hist.gilt (h : Hist base w g gi c vs cur) : base ≤ gi ∧ gi < w.heap.size := h.own.lt gi rfl
theorem Hist.irow (h : Hist base w g gi c vs cur) : ∃ cu, w.heap[gi]? = some (.cells cu 3 (0, 0)) := by
  rcases h.own.2 with ⟨h1, _⟩ | ⟨g', cap, cu, h1, _, h2, _⟩
  · cases h1
  · injection h1 with h1; injection h1 with h1; injection h1 with h1; subst h1; exact ⟨cu, h2⟩
theorem Hist.ne (h : Hist base w g gi c vs cur) : g ≠ gi := by
  obtain ⟨cu, hc⟩ := h.irow
  rintro rfl
  rw [h.row] at hc
  simp at hc
theorem Hist.c0 (h : Hist base w g gi c vs cur) : w.cell? ⟨g, 0, none⟩ = some (.slice (some ⟨gi, 0, none⟩) vs.length c) := (cell_of_row _ _ 0 _ _ _ h.row).trans rfl
theorem Hist.c1 (h : Hist base w g gi c vs cur) : w.cell? ⟨g, 1, none⟩ = some (.int .i64 (cur : Nat)) := (cell_of_row _ _ 1 _ _ _ h.row).trans rfl
theorem Hist.f (h : Hist base w g gi c vs cur) (i : Nat) : w.frozen? ⟨g, i, none⟩ = false := frozen_of_row _ _ _ _ _ h.row
theorem Hist.item (h : Hist base w g gi c vs cur) : w.cell? ⟨gi, cur, none⟩ = some (.int .i64 (vs[cur]'h.lt)) := by
  have := h.lt
  rw [h.own.cellAt cur (by omega), List.getElem?_map, List.getElem?_eq_getElem this]
  rfl
theorem Hist.to (h : Hist base w g gi c vs cur) {k : Nat} (hk : k < vs.length) : Hist base (w.setCell ⟨g, 1, none⟩ (.int .i64 (k : Nat))) g gi c vs k where
  row := heap_setCell_same w g 1 _ _ _ h.row
  own := ownsRow_setCell_other h.own (by intro e; injection e with e; exact h.ne e.symm) _
  lt := hk
  le := h.le
  bg := h.bg
theorem Hist.kept {bs : List Nat} (h : Hist base w g gi c vs cur) (hk : ButAt bs w w') (h1 : g ∉ bs) (h2 : gi ∉ bs) : Hist base w' g gi c vs cur where
  row := (hk.block g h.glt h1).trans h.row
  own := by
    refine ⟨h.own.1, ?_⟩
    rcases h.own.2 with ⟨e1, _⟩ | ⟨g', cap, cu, e1, e2, e3, e4⟩
    · cases e1
    · injection e1 with e1 _ e5
      injection e1 with e1
      injection e1 with e1
      subst e1 e5
      exact .inr ⟨gi, c, cu, rfl, e2, (hk.block gi h.gilt.2 h2).trans e3, e4⟩
  lt := h.lt
  le := h.le
  bg := h.bg
theorem Hist.below (h : Hist base w g gi c vs cur) (hb : Below w.heap.size w w') : Hist base w' g gi c vs cur := h.kept (ButAt.of (bs := []) hb) (by simp) (by simp)
end

set_option maxHeartbeats 800000 in
theorem isMade_none (w : World) : Calls Try.prog 78 #[.pointer none] w fun e w' => e = .returned (.bool false) ∧ w' = w := by
  go_enter Try.func78, Try.ntmps78
  go_wp2
  go_ret
  exact ⟨rfl, rfl⟩
set_option maxHeartbeats 800000 in
theorem isMade_any (g n c : Nat) (A : Option Addr) (w : World) (h : w.cell? ⟨g, 0, none⟩ = some (.slice A n c)) (hn : 0 < n) : Calls Try.prog 78 #[.pointer (some ⟨g, 0, none⟩)] w fun e w' => e = .returned (.bool true) ∧ w' = w := by
  have hn' : (0 : Int) < (n : Int) := by omega
  go_enter Try.func78, Try.ntmps78
  go_wp2
  go_ret
  exact ⟨rfl, rfl⟩
set_option maxHeartbeats 1600000 in
theorem move_none (b : Int) (w : World) : Calls Try.prog 80 #[.pointer none, .int .i64 b] w fun e w' => e = .returned (.int .i64 1) ∧ w' = w := by
  go_enter Try.func80, Try.ntmps80
  go_wp2_with fail
  refine (isMade_none w).mono ?_
  rintro e w' ⟨rfl, hw⟩
  obtain rfl := hw.symm
  clear hw
  go_wp2
  go_ret
  exact ⟨rfl, rfl⟩
set_option maxHeartbeats 1600000 in
theorem move_any (base g gi c : Nat) (vs : List Int) (cur : Nat) (b : Int) (w : World) (h : Hist base w g gi c vs cur) (hb : b = 1 ∨ b = -1) : Calls Try.prog 80 #[.pointer (some ⟨g, 0, none⟩), .int .i64 b] w fun e w' =>
    (((cur : Int) + b < 0 ∨ (vs.length : Int) ≤ (cur : Int) + b) ∧ e = .returned (.int .i64 5) ∧ w' = w) ∨ (∃ k : Nat, (k : Int) = (cur : Int) + b ∧ k < vs.length ∧ e = .returned (.int .i64 0) ∧ w' = w.setCell ⟨g, 1, none⟩ (.int .i64 (k : Nat))) := by
  have h0 := h.c0
  have h1 := h.c1
  have hf := h.f 1
  have hlt := h.lt
  have hle := h.le
  have hpos : 0 < vs.length := by omega
  clear h
  have hw1 : IntKind.i64.wrap ((cur : Int) + b) = (cur : Int) + b := IntWalk.i64_in _ (by omega)
  generalize vs.length = n at h0 hlt hle hpos ⊢
  have HM := Lib.hid (isMade_any g n c _ w h0 hpos)
  obtain ⟨t, ht⟩ : ∃ t, t = (cur : Int) + b := ⟨_, rfl⟩
  rw [← ht] at hw1 ⊢
  have Ht := Lib.hid ht
  have hct : (t < 0) ∨ ((n : Int) ≤ t) ∨ (0 ≤ t ∧ t < n) := by omega
  have hbs : -2 ≤ t ∧ t ≤ 1001 := by omega
  rcases hct with hc | hc | hc
  · have g1 : decide (t < 0) = true := decide_eq_true hc
    have Hc := Lib.hid hc
    clear hb ht hc
    go_enter Try.func80, Try.ntmps80
    go_wp2_with fail
    refine (HM.out).mono ?_
    rintro e w' ⟨rfl, hw⟩
    obtain rfl := hw.symm
    clear hw
    rw [Ht.out] at g1 hw1
    go_wp2
    go_ret
    exact .inl ⟨.inl Hc.out, rfl, rfl⟩
  · have g1 : decide (t < 0) = false := decide_eq_false (by omega)
    have g2 : decide ((n : Int) ≤ t) = true := decide_eq_true hc
    have Hc := Lib.hid hc
    clear hb ht hc
    go_enter Try.func80, Try.ntmps80
    go_wp2_with fail
    refine (HM.out).mono ?_
    rintro e w' ⟨rfl, hw⟩
    obtain rfl := hw.symm
    clear hw
    rw [Ht.out] at g1 g2 hw1
    go_wp2
    go_ret
    exact .inl ⟨.inr Hc.out, rfl, rfl⟩
  · obtain ⟨k, hk⟩ : ∃ k : Nat, (k : Int) = t := ⟨t.toNat, by omega⟩
    have g1 : decide (t < 0) = false := decide_eq_false (by omega)
    have g2 : decide ((n : Int) ≤ t) = false := decide_eq_false (by omega)
    have Hk := Lib.hid (show (k : Int) = t ∧ k < n from ⟨hk, by omega⟩)
    have hkt : (cur : Int) + b = (k : Int) := by omega
    have g3 : decide (n ≤ k) = false := decide_eq_false (by omega)
    have g4 : ¬ n ≤ k := by omega
    clear hb ht hc
    rw [← hk] at g1 g2 hw1
    clear hk
    go_enter Try.func80, Try.ntmps80
    go_wp2_with fail
    refine (HM.out).mono ?_
    rintro e w' ⟨rfl, hw⟩
    obtain rfl := hw.symm
    clear hw
    go_wp2
    go_ret
    exact .inr ⟨k, Hk.out.1, Hk.out.2, rfl, by first | rfl | rw [← hkt] | simp [hkt]⟩
end Go.Proofs.Ytefhnacbgpbdhaa.Tok
