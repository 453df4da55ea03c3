/- For the law's own conversion of a unit: its call at no comments, the unit's cells. -/
import Derived.Test.YtmekdghnkkephaaUnitTexts
namespace Go.Proofs.Ytmekdghnkkephaa.Tok
open Go.RowKit Go.Proofs.Ytmekdghnkkephaa

theorem comments_none (w : World) : Calls Try.prog 14 #[.slice none 0 0] w fun e w' => e = .returned (.slice none 0 0) ∧ w' = w := by
  go_enter Try.func14, Try.ntmps14
  go_wp2
  go_loop [3, 8] (fun v i => v = .slice none 0 0 ∧ i = .int .i64 0) (fun _ _ => 0)
  case atStart => exact ⟨rfl, rfl⟩
  case round =>
    obtain ⟨rfl, rfl⟩ := hrel
    go_wp2
    go_ret
    exact ⟨rfl, rfl⟩

theorem one_unit (A B C : Option Addr) (a b c d e f : Nat) : (#[Value.slice A a b, Value.slice B c d, Value.slice C e f].all (·.oneCell')) = true := by
  rw [Array.all_eq_true_iff_forall_mem]
  intro u hu
  have : u = .slice A a b ∨ u = .slice B c d ∨ u = .slice C e f := by simpa using hu
  rcases this with rfl | rfl | rfl <;> rfl
theorem sizeU : (Try.prog.info? 53).map (·.size) = some 3 := by kernel_rfl
theorem unit_world {w wq : World} {x y z : Value} {cs : Array Value} {T1 T2 : TypeId} (h : ((w.alloc (.cells #[x, y, z] T1)).alloc (.cells cs T2)) = wq) :
    wq.cell? ⟨w.heap.size, 0, none⟩ = some x ∧ wq.cell? ⟨w.heap.size, 1, none⟩ = some y ∧ wq.cell? ⟨w.heap.size, 2, none⟩ = some z ∧
    wq.heap[w.heap.size + 1]? = some (.cells cs T2 (0, 0)) ∧ Below w.heap.size w wq ∧ wq.heap.size = w.heap.size + 2 := by
  subst h
  have h1 : ((w.alloc (.cells #[x, y, z] T1)).alloc (.cells cs T2)).heap[w.heap.size]? = some (.cells #[x, y, z] T1 (0, 0)) := by
    rw [heap_alloc_old _ _ (by simp)]
    exact heap_alloc_new _ _
  refine ⟨?_, ?_, ?_, heap_alloc_2 _ _ _, ((Below.refl _ _).alloc (Nat.le_refl _) _).alloc (by simp) _, by simp⟩
  · rw [cell_of_row _ _ _ _ _ _ h1]; rfl
  · rw [cell_of_row _ _ _ _ _ _ h1]; rfl
  · rw [cell_of_row _ _ _ _ _ _ h1]; rfl
end Go.Proofs.Ytmekdghnkkephaa.Tok
