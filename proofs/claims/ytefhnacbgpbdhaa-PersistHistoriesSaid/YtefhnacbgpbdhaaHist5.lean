/- Histories: fork; the reference's undo and redo. -/
import Derived.Test.YtefhnacbgpbdhaaHist4
import Derived.Test.YtefhnacbgpbdhaaTreeJoinT
namespace Go.Proofs.Ytefhnacbgpbdhaa.Tok
open Go.RowKit Go.Proofs.Ytefhnacbgpbdhaa

set_option maxHeartbeats 3200000 in
set_option maxRecDepth 8000 in
theorem forkH_any (base g gi c : Nat) (vs : List Int) (cur : Nat) (w : World) (h : Hist base w g gi c vs cur) : Calls Try.prog 35 #[.pointer (some ⟨g, 0, none⟩)] w fun e w' =>
    ∃ g' gi' c', e = .returned (.pointer (some ⟨g', 0, none⟩)) ∧ Hid (Hist w.heap.size w' g' gi' c' (vs.take (cur + 1)) cur) ∧ Below w.heap.size w w' := by
  have h0 := h.c0
  have h1 := h.c1
  have hlt := h.lt
  have hle := h.le
  have hpos : 0 < vs.length := by omega
  have hcap : cur + 1 ≤ c := by
    rcases h.own.2 with ⟨e, _⟩ | ⟨g', cap, cu', e, k1, k2, k3, k4, k5, k6⟩
    · cases e
    · injection e with _ _ e2
      subst e2
      omega
  have H := Lib.hid h
  have HM := Lib.hid (isMade_any g vs.length c _ w h0 hpos)
  have HC : Hid (∀ w1, Below w.heap.size w w1 → Calls Try.prog 81 #[.slice (some ⟨gi, 0, none⟩) (cur + 1) c] w1 fun e w' => ∃ gi' c', e = .returned (.slice (some ⟨gi', 0, none⟩) (cur + 1) c') ∧ Hid (w'.ownsRow w.heap.size 3 1 (.slice (some ⟨gi', 0, none⟩) (cur + 1) c') (cur + 1) ((vs.take (cur + 1)).map (Value.int .i64))) ∧ Below w.heap.size w w' ∧ w'.cell? ⟨g, 0, none⟩ = some (.slice (some ⟨gi, 0, none⟩) vs.length c) ∧ w'.cell? ⟨g, 1, none⟩ = some (.int .i64 (cur : Nat))) := fun w1 hb => by
    refine (Try.slices_Clone_int gi 0 (cur + 1) c vs w1 (by omega) (by omega) ?_).mono ?_
    · intro j hj
      rw [Nat.zero_add]
      refine (hb.cell (p := ⟨gi, j, none⟩) h.gilt.2).trans ((h.own.cellAt j (by omega)).trans ?_)
      rw [List.getElem?_map, List.getElem?_eq_getElem hj, List.getD_eq_getElem?_getD, List.getElem?_eq_getElem hj]
      rfl
    · rintro e w' ⟨v', rfl, o, -, hb'⟩
      have hb2 : Below w.heap.size w w' := hb.trans (hb'.mono hb.size)
      have hh := h.below hb2
      rcases o.2 with ⟨_, e2⟩ | ⟨gi', cap, cu', rfl, k1, k2, k3, k4, k5, k6⟩
      · omega
      · exact ⟨gi', cap, rfl, ⟨o.1, .inr ⟨gi', cap, cu', rfl, by have := hb.size; omega, k2, k3, k4, k5, k6⟩⟩, hb2, hh.c0, hh.c1⟩
  have Hlt := Lib.hid hlt
  have Hle := Lib.hid hle
  have hw1 : IntKind.i64.wrap ((cur : Int) + 1) = ((cur + 1 : Nat) : Int) := (IntWalk.i64_in _ (by omega)).trans (by omega)
  have HX : Hid (∀ w1 gi' c', Below w.heap.size w w1 → Hid (w1.ownsRow w.heap.size 3 1 (.slice (some ⟨gi', 0, none⟩) (cur + 1) c') (cur + 1) ((vs.take (cur + 1)).map (Value.int .i64))) → Hid (Hist w.heap.size (w1.alloc (.cells #[.slice (some ⟨gi', 0, none⟩) (cur + 1) c', .int .i64 (cur : Nat)] 144)) w1.heap.size gi' c' (vs.take (cur + 1)) cur)) := fun w1 gi' c' hb ho => by
    have hl : (vs.take (cur + 1)).length = cur + 1 := by rw [List.length_take]; omega
    refine ⟨?_, ?_, by omega, by omega, hb.size⟩
    · rw [hl]; exact heap_alloc_new w1 _
    · rw [hl]; exact ho.out.alloc _
  clear h hlt hle hpos
  go_enter Try.func35, Try.ntmps35
  go_wp2_with fail
  refine (HM.out).mono ?_
  rintro e w' ⟨rfl, hw⟩
  obtain rfl := hw.symm
  clear hw
  go_wp2
  have hlen : cur < vs.length := Hlt.out
  have Hd := Lib.hid ((Below.refl w.heap.size w).drew)
  go_region_with (first
    | (go_at_call 81; (with_reducible refine (HC.out _ Hd.out).mono ?_); rintro e w1 ⟨gi', c', rfl, o1, b1, k0, k1⟩))
  all_goals (go_wp2; go_ret; exact ⟨_, gi', c', rfl, HX.out _ _ _ b1 o1, b1.alloc b1.size _⟩)
end Go.Proofs.Ytefhnacbgpbdhaa.Tok
