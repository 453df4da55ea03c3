/- Histories: the reference's fork. -/
import Derived.Test.YtefhnacbgpbdhaaHist7
namespace Go.Proofs.Ytefhnacbgpbdhaa.Tok
open Go.RowKit Go.Proofs.Ytefhnacbgpbdhaa

set_option maxHeartbeats 3200000 in
set_option maxRecDepth 8000 in
theorem rfork_any (gA n c cur base : Nat) (vs : List Int) (w : World) (hn : vs.length = n) (hc : cur < n) (hle : n ≤ 1000) (ho : w.ownsRow base 3 1 (.slice (some ⟨gA, 0, none⟩) n c) n (vs.map (Value.int .i64))) :
    Calls Try.prog 36 #[.agg #[.slice (some ⟨gA, 0, none⟩) n c, .int .i64 (cur : Nat)]] w fun e w' =>
    (∃ gr c', e = .returned (.agg #[.slice (some ⟨gr, 0, none⟩) (cur + 1) c', .int .i64 (cur : Nat)]) ∧ Hid (w'.ownsRow w.heap.size 3 1 (.slice (some ⟨gr, 0, none⟩) (cur + 1) c') (cur + 1) ((vs.take (cur + 1)).map (Value.int .i64)))) ∧ Hid (Below w.heap.size w w') := by
  obtain ⟨i0, hi0, iz0, iz1, iz2⟩ := info_parts infoInt12
  have Ho := Lib.hid ho
  have hga : gA < w.heap.size := (ho.lt gA rfl).2
  have hcap : n ≤ c := by
    rcases ho.2 with ⟨e, _⟩ | ⟨g', cap, cu', e, k1, k2, k3, k4, k5, k6⟩
    · cases e
    · injection e with _ _ e2
      subst e2
      exact k3
  clear ho
  have hw1 : IntKind.i64.wrap ((cur : Int) + 1) = (cur : Int) + 1 := IntWalk.i64_in _ (by omega)
  have hnl : ((vs.take (cur + 1)).map (Value.int .i64)).length = (cur + 1) * 1 := by rw [List.length_map, List.length_take]; omega
  have hone : Hid (∀ u ∈ (vs.take (cur + 1)).map (Value.int .i64), u.oneCell' = true) := by
    show ∀ u ∈ _, _
    intro u hu
    obtain ⟨z, _, rfl⟩ := List.mem_map.1 hu
    rfl
  have hnews : Hid (∀ w1, Below w.heap.size w w1 → ∀ j u, ((vs.take (cur + 1)).map (Value.int .i64))[j]? = some u → w1.cell? ((⟨gA, 0, none⟩ : Addr).add j) = some u) := fun w1 hb j u hu => by
    have hj : j < cur + 1 := by have := (List.getElem?_eq_some_iff.1 hu).1; simp at this; omega
    rw [add_zero_block]
    refine (hb.cell (p := ⟨gA, j, none⟩) hga).trans ((Ho.out.cellAt j (by omega)).trans ?_)
    rw [List.map_take, List.getElem?_take_of_lt hj] at hu
    exact hu
  go_enter Try.func36, Try.ntmps36
  go_wp2_with fail
  generalize hwq : World.alloc (World.alloc _ _) _ = wq
  have hbq : Below w.heap.size w wq := by subst hwq; exact ((Below.refl _ _).alloc (Nat.le_refl _) _).alloc (by simp) _
  have hsq : wq.heap.size = w.heap.size + 2 := by subst hwq; simp
  have r0 : wq.heap[w.heap.size]? = some (.cells #[.slice (some ⟨gA, 0, none⟩) n c, .int .i64 (cur : Nat)] 66 (0, 0)) := by
    subst hwq
    rw [heap_alloc_old _ _ (by simp)]
    exact heap_alloc_new _ _
  have r1 : wq.heap[w.heap.size + 1]? = some (.cells #[.slice none 0 0, .int .i64 0] 66 (0, 0)) := by subst hwq; exact ptr_alloc_2 _ _ _
  clear hwq
  have c00 := (cell_of_row _ _ 0 _ _ _ r0).trans (rfl : _ = some (Value.slice (some ⟨gA, 0, none⟩) n c))
  have c01 := (cell_of_row _ _ 1 _ _ _ r0).trans (rfl : _ = some (Value.int .i64 (cur : Nat)))
  have R0 := Lib.hid r0
  have R1 := Lib.hid r1
  have HBq := Lib.hid hbq
  have Hsq := Lib.hid hsq
  clear r0 r1
  have hown0 : Hid ((wq.alloc (.cells #[] 3)).ownsRow w.heap.size 3 1 (.slice (some ⟨wq.heap.size, 0, none⟩) 0 0) 0 []) :=
    World.ownsRow_lit (base := w.heap.size) (e := 3) (size := 1) wq #[] 0 hbq.size (by decide) (by simp)
  have g63 : 0 + (cur + 1) ≤ maxLen := by simp only [maxLen]; omega
  have gby : (0 + (cur + 1)) * 8 ≤ 140737488355328 := by omega
  have HN : Hid (∀ o : Obj, ∀ j u, ((vs.take (cur + 1)).map (Value.int .i64))[j]? = some u → (wq.alloc o).drew.cell? ((⟨gA, 0, none⟩ : Addr).add j) = some u) := fun o => hnews.out _ (hbq.alloc hbq.size o).drew
  have HK : Hid (∀ o w2 gr c2, ((wq.alloc o).drew).grownBy w2 (some wq.heap.size) → w2.ownsRow w.heap.size 3 1 (.slice (some ⟨gr, 0, none⟩) (0 + (cur + 1)) c2) (0 + (cur + 1)) ([] ++ (vs.take (cur + 1)).map (Value.int .i64)) → (some wq.heap.size = some gr ∨ gr = wq.heap.size + 1) →
      w2.cell? ⟨w.heap.size, 1, none⟩ = some (.int .i64 (cur : Nat)) ∧ w2.cell? ⟨w.heap.size + 1, 0, none⟩ = some (.slice none 0 0) ∧ w2.cell? ⟨w.heap.size + 1, 1, none⟩ = some (.int .i64 0) ∧ w2.frozen? ⟨w.heap.size + 1, 0, none⟩ = false ∧ w2.frozen? ⟨w.heap.size + 1, 1, none⟩ = false ∧
      Hid (((w2.setCell ⟨w.heap.size + 1, 0, none⟩ (.slice (some ⟨gr, 0, none⟩) (cur + 1) c2)).setCell ⟨w.heap.size + 1, 1, none⟩ (.int .i64 (cur : Nat))).heap[w.heap.size + 1]? = some (.cells #[.slice (some ⟨gr, 0, none⟩) (cur + 1) c2, .int .i64 (cur : Nat)] 66 (0, 0))) ∧
      Hid (((w2.setCell ⟨w.heap.size + 1, 0, none⟩ (.slice (some ⟨gr, 0, none⟩) (cur + 1) c2)).setCell ⟨w.heap.size + 1, 1, none⟩ (.int .i64 (cur : Nat))).ownsRow w.heap.size 3 1 (.slice (some ⟨gr, 0, none⟩) (cur + 1) c2) (cur + 1) ((vs.take (cur + 1)).map (Value.int .i64))) ∧
      Hid (Below w.heap.size w ((w2.setCell ⟨w.heap.size + 1, 0, none⟩ (.slice (some ⟨gr, 0, none⟩) (cur + 1) c2)).setCell ⟨w.heap.size + 1, 1, none⟩ (.int .i64 (cur : Nat))))) := fun o w2 gr c2 hg ho hat => by
    have hs := Hsq.out
    have hgr : gr ≠ w.heap.size + 1 := by
      rcases hat with h | h
      · injection h with h; omega
      · omega
    rw [Nat.zero_add, List.nil_append] at ho
    have q0 : w2.heap[w.heap.size]? = _ := (hg.block w.heap.size (by show _ < (wq.alloc o).heap.size; simp; omega) (by intro e; injection e with e; omega)).trans ((heap_alloc_old wq o (by omega)).trans R0.out)
    have q1 : w2.heap[w.heap.size + 1]? = _ := (hg.block (w.heap.size + 1) (by show _ < (wq.alloc o).heap.size; simp; omega) (by intro e; injection e with e; omega)).trans ((heap_alloc_old wq o (by omega)).trans R1.out)
    refine ⟨(cell_of_row _ _ 1 _ _ _ q0).trans rfl, (cell_of_row _ _ 0 _ _ _ q1).trans rfl, (cell_of_row _ _ 1 _ _ _ q1).trans rfl, frozen_of_row _ _ _ _ _ q1, frozen_of_row _ _ _ _ _ q1, ?_, ?_, ?_⟩
    · exact heap_setCell_same _ _ 1 _ _ _ (heap_setCell_same w2 _ 0 _ _ _ q1)
    · exact ownsRow_setCell_other (ownsRow_setCell_other ho (by intro e; exact hgr (by injection e)) _) (by intro e; exact hgr (by injection e)) _
    · have hb : Below w.heap.size w ((wq.alloc o).drew) := (HBq.out.alloc HBq.out.size o).drew
      exact ((hb.grown hg (by show _ ≤ (wq.alloc o).heap.size; simp; omega) (fun k hk => by injection hk with hk; omega)).setCell (by show _ ≤ _ + 1; omega) _).setCell (by show _ ≤ _ + 1; omega) _
  have hl0 : w.heap.size < wq.heap.size := by omega
  have hl1 : w.heap.size + 1 < wq.heap.size := by omega
  have hcc : (0 : Int) ≤ (cur : Int) + 1 ∧ (cur : Int) + 1 ≤ (c : Int) := by omega
  have hbase : Hid (∀ o : Obj, w.heap.size ≤ (wq.alloc o).drew.heap.size) := fun o => by show _ ≤ (wq.alloc o).heap.size; simp; omega
  clear hbq hsq
  go_region_law
    ((refine step_append_lies _ (by rfl) _ _ _ (by rfl) w.heap.size 3 i0 _ 1 8 Try.underlying50 hi0 iz0 iz1 iz2 rfl (by omega) (.slice (some ⟨wq.heap.size, 0, none⟩) 0 0) 0 [] (by rfl) (hown0.out.drew) ⟨gA, 0, none⟩ (cur + 1) c ((vs.take (cur + 1)).map (Value.int .i64)) (by rfl) hnl (HN.out _) hone.out (by omega) g63 gby (hbase.out _) (wq.heap.size + 1) (by simp) ?_; intro gr c2 w2 hown2 hgrow2 hat2 hlt2; obtain ⟨k0, k1, k2, k3, k4, k5, k6, k7⟩ := HK.out _ _ _ _ hgrow2 hown2 hat2; clear hgrow2 hown2 hat2))
  all_goals
    go_wp2
    (try simp only [Exit.inBlock, Exit.then])
    refine bodyPost_ret (results_cell_row rfl _ _ (w.heap.size + 1) 66 #[.slice (some ⟨gr, 0, none⟩) (cur + 1) c2, .int .i64 (cur : Nat)] (0, 0) _ rfl k5.out Try.underlying66 rfl sizeHist) rfl ?_
    exact ⟨⟨gr, c2, rfl, k6⟩, k7⟩
end Go.Proofs.Ytefhnacbgpbdhaa.Tok
