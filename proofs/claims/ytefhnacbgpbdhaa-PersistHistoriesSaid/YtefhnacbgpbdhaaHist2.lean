/- Histories: undo, redo, the current version, a version more. -/
import Derived.Test.YtefhnacbgpbdhaaHist
import Derived.Test.YtefhnacbgpbdhaaShelf
import Derived.Deep.AppendLies
import Derived.Deep.RegionHeld3
namespace Go.Proofs.Ytefhnacbgpbdhaa.Tok
open Go.RowKit Go.Proofs.Ytefhnacbgpbdhaa

theorem undoH_none (w : World) : Calls Try.prog 31 #[.pointer none] w fun e w' => e = .returned (.int .i64 1) ∧ w' = w := by
  go_enter Try.func31, Try.ntmps31
  go_wp2_with fail
  refine (move_none _ w).mono ?_
  rintro e w' ⟨rfl, hw⟩
  obtain rfl := hw.symm
  clear hw
  go_wp2
  go_ret
  exact ⟨rfl, rfl⟩
theorem redoH_none (w : World) : Calls Try.prog 33 #[.pointer none] w fun e w' => e = .returned (.int .i64 1) ∧ w' = w := by
  go_enter Try.func33, Try.ntmps33
  go_wp2_with fail
  refine (move_none _ w).mono ?_
  rintro e w' ⟨rfl, hw⟩
  obtain rfl := hw.symm
  clear hw
  go_wp2
  go_ret
  exact ⟨rfl, rfl⟩
set_option maxHeartbeats 800000 in
theorem undoH_any (base g gi c : Nat) (vs : List Int) (cur : Nat) (w : World) (h : Hist base w g gi c vs cur) : Calls Try.prog 31 #[.pointer (some ⟨g, 0, none⟩)] w fun e w' =>
    (cur = 0 ∧ e = .returned (.int .i64 5) ∧ w' = w) ∨ (∃ k : Nat, cur = k + 1 ∧ e = .returned (.int .i64 0) ∧ w' = w.setCell ⟨g, 1, none⟩ (.int .i64 (k : Nat))) := by
  have HM := Lib.hid (move_any base g gi c vs cur (-1) w h (.inr rfl))
  have hlt := h.lt
  clear h
  go_enter Try.func31, Try.ntmps31
  go_wp2_with fail
  refine (HM.out).mono ?_
  rintro e w' (⟨h1, rfl, hw⟩ | ⟨k, h1, h2, rfl, hw⟩)
  all_goals
    have Hw := Lib.hid hw
    have h3 := Lib.hid h1
    clear h1 hw
    go_wp2
    go_ret
  · exact .inl ⟨by have := h3.out; omega, rfl, Hw.out⟩
  · exact .inr ⟨k, by have := h3.out; omega, rfl, Hw.out⟩
set_option maxHeartbeats 800000 in
theorem redoH_any (base g gi c : Nat) (vs : List Int) (cur : Nat) (w : World) (h : Hist base w g gi c vs cur) : Calls Try.prog 33 #[.pointer (some ⟨g, 0, none⟩)] w fun e w' =>
    (cur + 1 = vs.length ∧ e = .returned (.int .i64 5) ∧ w' = w) ∨ (cur + 1 < vs.length ∧ e = .returned (.int .i64 0) ∧ w' = w.setCell ⟨g, 1, none⟩ (.int .i64 ((cur + 1 : Nat) : Int))) := by
  have HM := Lib.hid (move_any base g gi c vs cur 1 w h (.inl rfl))
  have hlt := h.lt
  clear h
  go_enter Try.func33, Try.ntmps33
  go_wp2_with fail
  refine (HM.out).mono ?_
  rintro e w' (⟨h1, rfl, hw⟩ | ⟨k, h1, h2, rfl, hw⟩)
  all_goals
    have Hw := Lib.hid hw
    have h3 := Lib.hid h1
    clear h1 hw
    go_wp2
    go_ret
  · exact .inl ⟨by have := h3.out; omega, rfl, Hw.out⟩
  · obtain rfl : k = cur + 1 := by have := h3.out; omega
    exact .inr ⟨h2, rfl, Hw.out⟩
set_option maxHeartbeats 800000 in
theorem current_none (w : World) : Calls Try.prog 37 #[.pointer none] w fun e w' => e = .returned (.tuple #[.int .i64 0, .int .i64 0]) ∧ w' = w := by
  go_enter Try.func37, Try.ntmps37
  go_wp2_with fail
  refine (isMade_none w).mono ?_
  rintro e w' ⟨rfl, hw⟩
  obtain rfl := hw.symm
  clear hw
  go_wp2
  go_ret2
  exact ⟨rfl, rfl⟩
set_option maxHeartbeats 1600000 in
theorem current_any (base g gi c : Nat) (vs : List Int) (cur : Nat) (x : Int) (w : World) (h : Hist base w g gi c vs cur) (hx : vs[cur]? = some x) : Calls Try.prog 37 #[.pointer (some ⟨g, 0, none⟩)] w fun e w' =>
    e = .returned (.tuple #[.int .i64 x, .int .i64 (cur : Nat)]) ∧ ∃ q, w' = w.drewN q := by
  have h0 := h.c0
  have h1 := h.c1
  have hi := h.item
  have hlt := h.lt
  have hle := h.le
  have hpos : 0 < vs.length := by omega
  rw [List.getElem?_eq_getElem hlt] at hx
  injection hx with hx
  rw [hx] at hi
  clear h hx
  generalize vs.length = n at h0 hlt hle hpos ⊢
  have HM := Lib.hid (isMade_any g n c _ w h0 hpos)
  go_enter Try.func37, Try.ntmps37
  go_wp2_with fail
  refine (HM.out).mono ?_
  rintro e w' ⟨rfl, hw⟩
  obtain rfl := hw.symm
  clear hw
  go_wp2
  go_region
  all_goals (go_wp2; go_ret2; exact ⟨rfl, 1, rfl⟩)

/-- What lies behind one more item. -/
theorem infoInt12 : (Try.prog.info? 3).map (fun i => (i.zero, i.size, i.bytes)) = some (some (.int .i64 0), 1, 8) := by kernel_rfl
theorem int_newH (w : World) (t : TypeId) (a : Value) {j : Nat} {u : Value} (h : [a][j]? = some u) : (w.alloc (.cells #[a] t)).cell? ((⟨w.heap.size, 0, none⟩ : Addr).add j) = some u := by
  rw [add_zero_block, cell_of_row _ _ _ _ _ _ (heap_alloc_new w _)]
  simpa using h
theorem one_intH (a : Int) : ∀ u ∈ [Value.int .i64 a], u.oneCell' = true := by
  intro u hu
  simp at hu
  subst hu
  rfl
set_option maxHeartbeats 1600000 in
set_option maxRecDepth 8000 in
theorem addH_any (base g : Nat) (v cu : Value) (n : Nat) (xs : List Value) (x : Int) (w : World) (hrow : w.heap[g]? = some (.cells #[v, cu] 144 (0, 0))) (hown : w.ownsRow base 3 1 v n xs) (hn : n ≤ 1000) (hb : base ≤ w.heap.size) :
    Calls Try.prog 77 #[.pointer (some ⟨g, 0, none⟩), .int .i64 x] w fun e w' => e = .returned (.tuple #[]) ∧ ∃ gi' c', Hid (w'.heap[g]? = some (.cells #[.slice (some ⟨gi', 0, none⟩) (n + 1) c', cu] 144 (0, 0))) ∧
      Hid (w'.ownsRow base 3 1 (.slice (some ⟨gi', 0, none⟩) (n + 1) c') (n + 1) (xs ++ [.int .i64 x])) ∧ Hid (∀ bs, g ∈ bs → (∀ k, v.ownBlock = some k → k ∈ bs) → ButAt bs w w') ∧ Hid (v.ownBlock = some gi' ∨ w.heap.size ≤ gi') := by
  obtain ⟨i0, hi0, iz0, iz1, iz2⟩ := info_parts infoInt12
  have hglt : g < w.heap.size := by
    rcases Nat.lt_or_ge g w.heap.size with h1 | h1
    · exact h1
    · rw [Array.getElem?_eq_none h1] at hrow; cases hrow
  have c0 : w.cell? ⟨g, 0, none⟩ = some v := (cell_of_row _ _ 0 _ _ _ hrow).trans rfl
  have f0 : w.frozen? ⟨g, 0, none⟩ = false := frozen_of_row _ _ _ _ _ hrow
  have hvg : v.ownBlock ≠ some g := by
    rcases hown.2 with ⟨rfl, _⟩ | ⟨g', cap, cu', rfl, _, h2, _⟩
    · simp [Value.ownBlock]
    · intro e
      injection e with e
      subst e
      rw [hrow] at h2
      simp at h2
  have Hrow := Lib.hid hrow
  have Hown := Lib.hid hown
  have Hvg := Lib.hid hvg
  have HK : Hid (∀ o w1 gg cap, (w.alloc o).grownBy w1 v.ownBlock → w1.ownsRow base 3 1 (.slice (some ⟨gg, 0, none⟩) (n + 1) cap) (n + 1) (xs ++ [.int .i64 x]) → (v.ownBlock = some gg ∨ gg = w.heap.size + 1) → w1.frozen? ⟨g, 0, none⟩ = false ∧ (w1.cell? ⟨g, 0, none⟩ = some v) ∧
      Hid ((w1.setCell ⟨g, 0, none⟩ (.slice (some ⟨gg, 0, none⟩) (n + 1) cap)).heap[g]? = some (.cells #[.slice (some ⟨gg, 0, none⟩) (n + 1) cap, cu] 144 (0, 0))) ∧ Hid ((w1.setCell ⟨g, 0, none⟩ (.slice (some ⟨gg, 0, none⟩) (n + 1) cap)).ownsRow base 3 1 (.slice (some ⟨gg, 0, none⟩) (n + 1) cap) (n + 1) (xs ++ [.int .i64 x])) ∧
      Hid (∀ bs, g ∈ bs → (∀ k, v.ownBlock = some k → k ∈ bs) → ButAt bs w (w1.setCell ⟨g, 0, none⟩ (.slice (some ⟨gg, 0, none⟩) (n + 1) cap))) ∧ Hid (v.ownBlock = some gg ∨ w.heap.size ≤ gg)) := fun o w1 gg cap hg ho hl => by
    have hr1 : w1.heap[g]? = some (.cells #[v, cu] 144 (0, 0)) := (hg.block g (by simp; omega) (fun e => hvg e.symm)).trans ((heap_alloc_old w o hglt).trans hrow)
    refine ⟨frozen_of_row _ _ _ _ _ hr1, (cell_of_row _ _ 0 _ _ _ hr1).trans rfl, heap_setCell_same w1 g 0 _ _ _ hr1, ownsRow_setCell_other ho ?_ _, ?_, ?_⟩
    · intro e
      have e' : gg = g := by injection e
      rcases hl with h1 | h1
      · exact hvg (h1.trans (by rw [e']))
      · omega
    · intro bs h1 h2
      have a1 : ButAt bs w (w.alloc o) := ButAt.of ((Below.refl _ _).alloc (Nat.le_refl _) o)
      exact (a1.trans (ButAt.grown hg h2)).trans (ButAt.setCell h1 _)
    · rcases hl with h1 | h1
      · exact .inl h1
      · exact .inr (by omega)
  clear hrow hown hvg
  have g63 : n + 1 ≤ maxLen := by simp only [maxLen]; omega
  have gby : (n + 1) * 8 ≤ 140737488355328 := by omega
  have hbs : Hid (∀ o, base ≤ (w.alloc o).heap.size) := fun o => by simp; omega
  go_enter Try.func77, Try.ntmps77
  go_wp2_with (at_builtin; go_must (refine wpList_append_lies _ rfl (.tmp 8) (.tmp 10) 50 rfl base 3 i0 (.int .i64 0) 1 8 Try.underlying50 hi0 iz0 iz1 iz2 rfl (by decide) _ _ _ rfl (Hown.out.alloc _) ⟨w.heap.size, 0, none⟩ 1 1 [.int .i64 x] rfl rfl (fun j u hu => int_newH _ _ _ hu) (one_intH _) (by decide) g63 gby (hbs.out _) (w.heap.size + 1) (by simp) ?_); intro gg cap w1 hown1 hgrow hat hlt; obtain ⟨k0, k1, k2, k3, k4, k5⟩ := HK.out _ _ _ _ hgrow hown1 hat)
  go_end0
  exact ⟨rfl, _, _, k2, k3, k4, k5⟩
end Go.Proofs.Ytefhnacbgpbdhaa.Tok
