/- Histories: the reference's undo and redo, commit and fork. -/
import Derived.Test.YtefhnacbgpbdhaaHist5
namespace Go.Proofs.Ytefhnacbgpbdhaa.Tok
open Go.RowKit Go.Proofs.Ytefhnacbgpbdhaa

theorem sizeHist : (Try.prog.info? 66).map (·.size) = some 2 := by kernel_rfl
theorem one_hist (A : Option Addr) (n c : Nat) (k : Int) : (#[Value.slice A n c, .int .i64 k].all (·.oneCell')) = true := by simp [Value.oneCell']
set_option maxHeartbeats 1600000 in
set_option maxRecDepth 8000 in
theorem rundo_any (A : Option Addr) (n c cur : Nat) (w : World) (hc : cur ≤ 1000) : Calls Try.prog 32 #[.agg #[.slice A n c, .int .i64 (cur : Nat)]] w fun e w' =>
    ((cur = 0 ∧ e = .returned (.tuple #[.agg #[.slice A n c, .int .i64 (cur : Nat)], .int .i64 5])) ∨ (∃ k : Nat, cur = k + 1 ∧ e = .returned (.tuple #[.agg #[.slice A n c, .int .i64 (k : Nat)], .int .i64 0]))) ∧ Below w.heap.size w w' := by
  have HB : Hid (∀ o o' cs, Below w.heap.size w (((w.alloc o).alloc o').setRow (w.heap.size + 1) cs)) := fun o o' cs => setRow_below (((Below.refl _ _).alloc (Nat.le_refl _) _).alloc (by simp) _) (by omega) _
  have HR : Hid (∀ o o', ((w.alloc o).alloc o').heap[w.heap.size + 1]? = some o') := fun o o' => ptr_alloc_2 _ _ _
  by_cases h0 : cur = 0
  · have g1 : ((cur : Int) == 0) = true := by rw [beq_iff_eq]; omega
    have g2 : (cur == 0) = true := by rw [beq_iff_eq]; omega
    have H0 := Lib.hid h0
    clear h0
    go_enter Try.func32, Try.ntmps32
    go_wp2_with (refine wpList_store_row rfl 66 (.tmp 2) (.tmp 7) rfl (w.heap.size + 1) #[.slice A n c, .int .i64 (cur : Nat)] rfl rfl 66 #[.slice none 0 0, .int .i64 0] (HR.out _ _) sizeHist rfl (one_hist _ _ _ _) ?_)
    (try simp only [Exit.inBlock, Exit.then])
    refine bodyPost_ret (results_row_tmp' rfl _ _ (w.heap.size + 1) 66 #[.slice A n c, .int .i64 (cur : Nat)] (0, 0) _ rfl (setRow_heap _ _ _ _ _ _ (HR.out _ _)) Try.underlying66 rfl sizeHist) rfl ?_
    exact ⟨.inl ⟨H0.out, rfl⟩, HB.out _ _ _⟩
  · obtain ⟨k, rfl⟩ : ∃ k, cur = k + 1 := ⟨cur - 1, by omega⟩
    clear h0
    have hw1 : IntKind.i64.wrap (((k + 1 : Nat) : Int) - 1) = (k : Int) := (IntWalk.i64_in _ (by omega)).trans (by omega)
    have g1 : (((k + 1 : Nat) : Int) == 0) = false := by rw [beq_eq_false_iff_ne]; omega
    go_enter Try.func32, Try.ntmps32
    go_wp2_with (refine wpList_store_row rfl 66 (.tmp 2) (.tmp 13) rfl (w.heap.size + 1) #[.slice A n c, .int .i64 (k : Nat)] rfl rfl 66 #[.slice none 0 0, .int .i64 0] (HR.out _ _) sizeHist rfl (one_hist _ _ _ _) ?_)
    (try simp only [Exit.inBlock, Exit.then])
    refine bodyPost_ret (results_row_tmp' rfl _ _ (w.heap.size + 1) 66 #[.slice A n c, .int .i64 (k : Nat)] (0, 0) _ rfl (setRow_heap _ _ _ _ _ _ (HR.out _ _)) Try.underlying66 rfl sizeHist) rfl ?_
    exact ⟨.inr ⟨k, rfl, rfl⟩, HB.out _ _ _⟩
set_option maxHeartbeats 1600000 in
set_option maxRecDepth 8000 in
theorem rredo_any (A : Option Addr) (n c cur : Nat) (w : World) (hc : cur < n) (hn : n ≤ 1000) : Calls Try.prog 34 #[.agg #[.slice A n c, .int .i64 (cur : Nat)]] w fun e w' =>
    ((cur + 1 = n ∧ e = .returned (.tuple #[.agg #[.slice A n c, .int .i64 (cur : Nat)], .int .i64 5])) ∨ (cur + 1 < n ∧ e = .returned (.tuple #[.agg #[.slice A n c, .int .i64 ((cur + 1 : Nat) : Int)], .int .i64 0]))) ∧ Below w.heap.size w w' := by
  have HB : Hid (∀ o o' cs, Below w.heap.size w (((w.alloc o).alloc o').setRow (w.heap.size + 1) cs)) := fun o o' cs => setRow_below (((Below.refl _ _).alloc (Nat.le_refl _) _).alloc (by simp) _) (by omega) _
  have HR : Hid (∀ o o', ((w.alloc o).alloc o').heap[w.heap.size + 1]? = some o') := fun o o' => ptr_alloc_2 _ _ _
  have hw1 : IntKind.i64.wrap ((cur : Int) + 1) = ((cur + 1 : Nat) : Int) := (IntWalk.i64_in _ (by omega)).trans (by omega)
  by_cases h0 : cur + 1 = n
  · have g1 : (((cur + 1 : Nat) : Int) == (n : Int)) = true := by rw [beq_iff_eq]; omega
    have g2 : (cur + 1 == n) = true := by rw [beq_iff_eq]; omega
    have g3 : ((cur : Int) + 1 == (n : Int)) = true := by rw [beq_iff_eq]; omega
    have H0 := Lib.hid h0
    clear h0
    go_enter Try.func34, Try.ntmps34
    go_wp2_with (refine wpList_store_row rfl 66 (.tmp 2) (.tmp 11) rfl (w.heap.size + 1) #[.slice A n c, .int .i64 (cur : Nat)] rfl rfl 66 #[.slice none 0 0, .int .i64 0] (HR.out _ _) sizeHist rfl (one_hist _ _ _ _) ?_)
    (try simp only [Exit.inBlock, Exit.then])
    refine bodyPost_ret (results_row_tmp' rfl _ _ (w.heap.size + 1) 66 #[.slice A n c, .int .i64 (cur : Nat)] (0, 0) _ rfl (setRow_heap _ _ _ _ _ _ (HR.out _ _)) Try.underlying66 rfl sizeHist) rfl ?_
    exact ⟨.inl ⟨H0.out, rfl⟩, HB.out _ _ _⟩
  · have g1 : (((cur + 1 : Nat) : Int) == (n : Int)) = false := by rw [beq_eq_false_iff_ne]; omega
    have g2 : (cur + 1 == n) = false := by rw [beq_eq_false_iff_ne]; omega
    have g3 : ((cur : Int) + 1 == (n : Int)) = false := by rw [beq_eq_false_iff_ne]; omega
    have H0 := Lib.hid (show cur + 1 < n by omega)
    clear h0
    go_enter Try.func34, Try.ntmps34
    go_wp2_with (refine wpList_store_row rfl 66 (.tmp 2) (.tmp 17) rfl (w.heap.size + 1) #[.slice A n c, .int .i64 ((cur + 1 : Nat) : Int)] rfl rfl 66 #[.slice none 0 0, .int .i64 0] (HR.out _ _) sizeHist rfl (one_hist _ _ _ _) ?_)
    (try simp only [Exit.inBlock, Exit.then])
    refine bodyPost_ret (results_row_tmp' rfl _ _ (w.heap.size + 1) 66 #[.slice A n c, .int .i64 ((cur + 1 : Nat) : Int)] (0, 0) _ rfl (setRow_heap _ _ _ _ _ _ (HR.out _ _)) Try.underlying66 rfl sizeHist) rfl ?_
    exact ⟨.inr ⟨H0.out, rfl⟩, HB.out _ _ _⟩
end Go.Proofs.Ytefhnacbgpbdhaa.Tok
