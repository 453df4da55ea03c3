/- The table of the classes. -/
import Derived.Test.YtmekdghnkkephaaClassWalks
import Derived.Test.YtmekdghnkkephaaMem
import Derived.OwnWalk
import Derived.Laws.Tables
import Derived.KernelRfl
namespace Go.Proofs.Ytmekdghnkkephaa.Tok
open Go.RowKit Go.Proofs.Ytmekdghnkkephaa

/-- The table, filled as far as k. -/
def tab (k : Nat) : Array Value := ((List.range 256).map fun j => Value.int .u8 ((if j < k then cls j else 0 : Nat) : Int)).toArray
theorem tab_size (k : Nat) : (tab k).size = 256 := by simp [tab]
theorem tab_get (k j : Nat) (h : j < 256) : (tab k)[j]? = some (.int .u8 ((if j < k then cls j else 0 : Nat) : Int)) := by
  simp [tab, h]
theorem tab_none (k j : Nat) (h : ¬ j < 256) : (tab k)[j]? = none := Array.getElem?_eq_none (by rw [tab_size]; omega)
theorem tab_zero : Try.zeroCells116 = tab 0 := by kernel_rfl
theorem tab_set (k : Nat) (h : k < 256) : (tab k).setIfInBounds k (.int .u8 (cls k : Nat)) = tab (k + 1) := by
  apply Array.ext_getElem?
  intro i
  rw [Array.getElem?_setIfInBounds]
  by_cases hi : i < 256
  · rw [tab_get (k + 1) i hi, tab_get k i hi, tab_size]
    by_cases e : k = i
    · subst e; simp [h]
    · rw [if_neg e]
      by_cases hlt : i < k
      · rw [if_pos hlt, if_pos (by omega)]
      · rw [if_neg hlt, if_neg (by omega)]
  · rw [tab_none (k + 1) i hi, tab_none k i hi, if_neg (by omega)]
theorem tab_one (k : Nat) : (tab k).all (·.oneCell') = true := by
  rw [Array.all_eq_true_iff_forall_mem]
  intro v hv
  unfold tab at hv
  simp only [List.mem_toArray, List.mem_map] at hv
  obtain ⟨j, _, rfl⟩ := hv
  rfl

theorem size107 : (Try.prog.info? 116).map (·.size) = some 256 := by kernel_rfl

set_option maxRecDepth 4000 in
theorem classes_any (w : World) :
    Calls Try.prog 54 #[] w fun e w' => e = .returned (.agg (tab 256)) ∧ Below w.heap.size w w' := by
  go_enter Try.func54, Try.ntmps54
  go_wp2_with fail
  rw [tab_zero]
  go_loopw [3] (fun i wr => ∃ k : Nat, k ≤ 256 ∧ i = .int .i64 k ∧ wr.heap.size = w.heap.size + 2 ∧ Below w.heap.size w wr ∧ Hid (wr.heap[w.heap.size]? = some (.cells (tab 0) 116 (0, 0))) ∧ Hid (wr.heap[w.heap.size + 1]? = some (.cells (tab k) 116 (0, 0)))) (fun i _ => 256 - (intOf i).toNat)
  case atStart => exact ⟨0, by omega, rfl, by simp, ((Below.refl _ _).alloc (Nat.le_refl _) _).alloc (by simp) _, heap_alloc2_old _ _ _, heap_alloc2_new _ _ _⟩
  case round =>
    obtain ⟨k, hk, rfl, hsz, hbw, hh0, hh⟩ := hrel
    have Hsz := Lib.hid hsz
    clear hsz
    by_cases hlt : k < 256
    · have hcell : wr.cell? ⟨w.heap.size + 1, k, none⟩ = some (.int .u8 0) := by
        rw [cell_of_row _ _ _ _ _ _ hh.out, tab_get k k hlt, if_neg (by omega)]; rfl
      have hfro : wr.frozen? ⟨w.heap.size + 1, k, none⟩ = false := frozen_of_row _ _ _ _ _ hh.out
      go_wp2_with (go_at_call 75; refine (classOf_any k (by omega) _).mono ?_; rintro e w' ⟨rfl, rfl⟩)
      go_light
      have hlt1 : w.heap.size + 1 < wr.heap.size := by have := Hsz.out; omega
      refine ⟨⟨k + 1, by omega, by go_num, by simpa [World.setCell] using Hsz.out, hbw.setCell (by simp) _, ?_, ?_⟩, by simp [intOf]; omega⟩
      · show _ = _
        rw [heap_setCell_other _ _ _ _ (by simp)]; exact hh0.out
      · show _ = _
        rw [heap_setCell_same _ _ _ _ _ _ hh.out, tab_set k hlt]
    · obtain rfl : k = 256 := by omega
      go_wp2_with (first
        | (refine wpList_load_row rfl 116 (.tmp 1) rfl (w.heap.size + 1) rfl 116 (tab 256) (0, 0) _ hh.out Try.underlying116 rfl size107 ?_)
        | (refine wpList_store_row rfl 116 (.tmp 0) (.tmp 12) rfl w.heap.size (tab 256) rfl rfl 116 (tab 0) hh0.out size107 rfl (tab_one 256) ?_))
      refine bodyPost_ret (v := .agg (tab 256)) (results_cell_row rfl _ _ w.heap.size 116 (tab 256) (0, 0) _ rfl (setRow_heap _ _ _ _ _ _ hh0.out) Try.underlying116 rfl size107) rfl ⟨rfl, ?_⟩
      refine hbw.trans ⟨rfl, rfl, rfl, by simp, fun i hi => setRow_other _ _ _ _ (by omega)⟩
end Go.Proofs.Ytmekdghnkkephaa.Tok
