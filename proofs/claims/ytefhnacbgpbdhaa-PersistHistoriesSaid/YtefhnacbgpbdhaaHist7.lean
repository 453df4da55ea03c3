/- Histories: the reference's commit. -/
import Derived.Test.YtefhnacbgpbdhaaHist6
import Derived.Deep.RegionLaw
import Derived.Deep.DeepCutAuto
import Derived.Deep.DrawnRows
namespace Go.Proofs.Ytefhnacbgpbdhaa.Tok
open Go.RowKit Go.Proofs.Ytefhnacbgpbdhaa

set_option maxHeartbeats 3200000 in
set_option maxRecDepth 8000 in
theorem rcommit_any (gA n c cur base : Nat) (vs : List Int) (x : Int) (w : World) (hn : vs.length = n) (hc : cur < n) (hle : n ≤ 1000) (ho : w.ownsRow base 3 1 (.slice (some ⟨gA, 0, none⟩) n c) n (vs.map (Value.int .i64))) :
    Calls Try.prog 30 #[.agg #[.slice (some ⟨gA, 0, none⟩) n c, .int .i64 (cur : Nat)], .int .i64 x] w fun e w' =>
    ((cur = 999 ∧ e = .returned (.tuple #[.agg #[.slice (some ⟨gA, 0, none⟩) n c, .int .i64 (cur : Nat)], .int .i64 8])) ∨
      (cur < 999 ∧ ∃ gr c', e = .returned (.tuple #[.agg #[.slice (some ⟨gr, 0, none⟩) (cur + 1 + 1) c', .int .i64 ((cur + 1 : Nat) : Int)], .int .i64 0]) ∧ Hid (w'.ownsRow w.heap.size 3 1 (.slice (some ⟨gr, 0, none⟩) (cur + 1 + 1) c') (cur + 1 + 1) ((vs.take (cur + 1) ++ [x]).map (Value.int .i64))))) ∧ Hid (Below w.heap.size w w') := by
  obtain ⟨i0, hi0, iz0, iz1, iz2⟩ := info_parts infoInt12
  have Ho := Lib.hid ho
  have hga : gA < w.heap.size := (ho.lt gA rfl).2
  have hcap : n ≤ c := by
    rcases ho.2 with ⟨e, _⟩ | ⟨g', cap, cu', e, k1, k2, k3, k4, k5, k6⟩
    · cases e
    · injection e with _ _ e2
      subst e2
      exact k3
  clear ho
  by_cases h9 : cur = 999
  · have g1 : ((cur : Int) == 999) = true := by rw [beq_iff_eq]; omega
    have g2 : (cur == 999) = true := by rw [beq_iff_eq]; omega
    have H9 := Lib.hid h9
    clear h9
    have HB : Hid (∀ o o' cs, Below w.heap.size w (((w.alloc o).alloc o').setRow (w.heap.size + 1) cs)) := fun o o' cs => setRow_below (((Below.refl _ _).alloc (Nat.le_refl _) _).alloc (by simp) _) (by omega) _
    have HR : Hid (∀ o o', ((w.alloc o).alloc o').heap[w.heap.size + 1]? = some o') := fun o o' => ptr_alloc_2 _ _ _
    go_enter Try.func30, Try.ntmps30
    go_wp2_with (refine wpList_store_row rfl 66 (.tmp 4) (.tmp 10) rfl (w.heap.size + 1) #[.slice (some ⟨gA, 0, none⟩) n c, .int .i64 (cur : Nat)] rfl rfl 66 #[.slice none 0 0, .int .i64 0] (HR.out _ _) sizeHist rfl (one_hist _ _ _ _) ?_)
    (try simp only [Exit.inBlock, Exit.then])
    refine bodyPost_ret (results_row_tmp' rfl _ _ (w.heap.size + 1) 66 #[.slice (some ⟨gA, 0, none⟩) n c, .int .i64 (cur : Nat)] (0, 0) _ rfl (setRow_heap _ _ _ _ _ _ (HR.out _ _)) Try.underlying66 rfl sizeHist) rfl ?_
    exact ⟨.inl ⟨H9.out, rfl⟩, HB.out _ _ _⟩
  · have g1 : ((cur : Int) == 999) = false := by rw [beq_eq_false_iff_ne]; omega
    have g2 : (cur == 999) = false := by rw [beq_eq_false_iff_ne]; omega
    have H9 := Lib.hid (show cur < 999 by omega)
    clear h9
    have hw1 : IntKind.i64.wrap ((cur : Int) + 1) = (cur : Int) + 1 := IntWalk.i64_in _ (by omega)
    have hnl : ((vs.take (cur + 1)).map (Value.int .i64)).length = (cur + 1) * 1 := by rw [List.length_map, List.length_take]; omega
    have hone : Hid (∀ u ∈ (vs.take (cur + 1)).map (Value.int .i64), u.oneCell' = true) := by
      show ∀ u ∈ _, _
      intro u hu
      obtain ⟨z, _, rfl⟩ := List.mem_map.1 hu
      rfl
    have hnews : Hid (∀ o o' o'' : Obj, ∀ j u, ((vs.take (cur + 1)).map (Value.int .i64))[j]? = some u → (((w.alloc o).alloc o').alloc o'').cell? ((⟨gA, 0, none⟩ : Addr).add j) = some u) := fun o o' o'' j u hu => by
      have hj : j < cur + 1 := by have := (List.getElem?_eq_some_iff.1 hu).1; simp at this; omega
      rw [add_zero_block]
      have hb : Below w.heap.size w (((w.alloc o).alloc o').alloc o'') := (((Below.refl _ _).alloc (Nat.le_refl _) _).alloc (by simp) _).alloc (by simp; omega) _
      refine (hb.cell (p := ⟨gA, j, none⟩) hga).trans ((Ho.out.cellAt j (by omega)).trans ?_)
      rw [List.map_take, List.getElem?_take_of_lt hj] at hu
      exact hu
    have hown0 : Hid (∀ o o' : Obj, (((w.alloc o).alloc o').alloc (.cells #[] 3)).ownsRow w.heap.size 3 1 (.slice (some ⟨w.heap.size + 1 + 1, 0, none⟩) 0 0) 0 []) := fun o o' => by
      have := World.ownsRow_lit (base := w.heap.size) (e := 3) (size := 1) ((w.alloc o).alloc o') #[] 0 (by simp; omega) (by decide) (by simp)
      simpa using this
    have g63 : 0 + (cur + 1) ≤ maxLen := by simp only [maxLen]; omega
    have gby : (0 + (cur + 1)) * 8 ≤ 140737488355328 := by omega
    have hbs : Hid (∀ o o' o'' : Obj, w.heap.size ≤ (((w.alloc o).alloc o').alloc o'').heap.size ∧ (((w.alloc o).alloc o').alloc o'').heap.size = w.heap.size + 3) := fun o o' o'' => by simp; omega
    have hcc : cur + 1 ≤ c := by omega
    go_enter Try.func30, Try.ntmps30
    go_wp2_with (at_builtin; go_must (refine wpList_append_lies _ rfl (.tmp 11) (.tmp 17) 50 rfl w.heap.size 3 i0 (.int .i64 0) 1 8 Try.underlying50 hi0 iz0 iz1 iz2 rfl (by decide) _ _ _ rfl (hown0.out _ _) ⟨gA, 0, none⟩ (cur + 1) c ((vs.take (cur + 1)).map (Value.int .i64)) rfl hnl (hnews.out _ _ _) hone.out (by omega) g63 gby (hbs.out _ _ _).1 (w.heap.size + 3) (hbs.out _ _ _).2 ?_); intro gg cap w1 hown1 hgrow hat hlt)
    have hg1 : (((w.alloc (.cells #[.slice (some ⟨gA, 0, none⟩) n c, .int .i64 (cur : Nat)] 66)).alloc (.cells #[.slice none 0 0, .int .i64 0] 66)).alloc (.cells #[] 3)).grownBy w1 (some (w.heap.size + 1 + 1)) := hgrow
    have ha1 : some (w.heap.size + 1 + 1) = some gg ∨ gg = w.heap.size + 3 := hat
    have hgg : w.heap.size + 1 < gg := by
      rcases ha1 with h | h
      · injection h with h; omega
      · omega
    have ho1 : w1.ownsRow w.heap.size 3 1 (.slice (some ⟨gg, 0, none⟩) (cur + 1) cap) (cur + 1) ((vs.take (cur + 1)).map (Value.int .i64)) := by
      have := hown1
      rw [Nat.zero_add, List.nil_append] at this
      exact this
    have r0 : w1.heap[w.heap.size]? = some (.cells #[.slice (some ⟨gA, 0, none⟩) n c, .int .i64 (cur : Nat)] 66 (0, 0)) := by
      refine (hg1.block _ (by simp <;> omega) (by simp <;> omega)).trans ?_
      rw [heap_alloc_old _ _ (by simp; omega), heap_alloc_old _ _ (by simp)]
      exact heap_alloc_new _ _
    have r1 : w1.heap[w.heap.size + 1]? = some (.cells #[.slice none 0 0, .int .i64 0] 66 (0, 0)) := by
      refine (hg1.block _ (by simp <;> omega) (by simp)).trans ?_
      rw [heap_alloc_old _ _ (by simp)]
      exact ptr_alloc_2 _ _ _
    have hb1 : Below w.heap.size w w1 := ((((Below.refl _ _).alloc (Nat.le_refl _) _).alloc (by simp) _).alloc (by simp; omega) _).grown hg1 (by simp; omega) (fun k hk => by injection hk with hk; omega)
    have hz1 : w.heap.size + 3 ≤ w1.heap.size := by have := hg1.size; simp at this; omega
    have hcell1 := (cell_of_row _ _ 1 _ _ _ r0).trans (rfl : _ = some (Value.int .i64 (cur : Nat)))
    have R0 := Lib.hid r0
    have R1 := Lib.hid r1
    have HO := Lib.hid ho1
    have HB1 := Lib.hid hb1
    have Hgg := Lib.hid hgg
    clear hown1 hgrow hat hlt hg1 ha1 ho1 r0 r1 hb1 hnews hown0 hone hnl hbs hgg g63 gby
    have HK : Hid (∀ o w2 gr c2, ((w1.alloc o).drew).grownBy w2 (some gg) → w2.ownsRow w.heap.size 3 1 (.slice (some ⟨gr, 0, none⟩) (cur + 1 + 1) c2) (cur + 1 + 1) ((vs.take (cur + 1)).map (Value.int .i64) ++ [.int .i64 x]) → (some gg = some gr ∨ gr = w1.heap.size + 1) →
        w2.cell? ⟨w.heap.size, 1, none⟩ = some (.int .i64 (cur : Nat)) ∧ w2.cell? ⟨w.heap.size + 1, 0, none⟩ = some (.slice none 0 0) ∧ w2.cell? ⟨w.heap.size + 1, 1, none⟩ = some (.int .i64 0) ∧ w2.frozen? ⟨w.heap.size + 1, 0, none⟩ = false ∧ w2.frozen? ⟨w.heap.size + 1, 1, none⟩ = false ∧
        Hid (((w2.setCell ⟨w.heap.size + 1, 0, none⟩ (.slice (some ⟨gr, 0, none⟩) (cur + 1 + 1) c2)).setCell ⟨w.heap.size + 1, 1, none⟩ (.int .i64 ((cur : Int) + 1))).heap[w.heap.size + 1]? = some (.cells #[.slice (some ⟨gr, 0, none⟩) (cur + 1 + 1) c2, .int .i64 ((cur : Int) + 1)] 66 (0, 0))) ∧
        Hid (((w2.setCell ⟨w.heap.size + 1, 0, none⟩ (.slice (some ⟨gr, 0, none⟩) (cur + 1 + 1) c2)).setCell ⟨w.heap.size + 1, 1, none⟩ (.int .i64 ((cur : Int) + 1))).ownsRow w.heap.size 3 1 (.slice (some ⟨gr, 0, none⟩) (cur + 1 + 1) c2) (cur + 1 + 1) ((vs.take (cur + 1) ++ [x]).map (Value.int .i64))) ∧
        Hid (Below w.heap.size w ((w2.setCell ⟨w.heap.size + 1, 0, none⟩ (.slice (some ⟨gr, 0, none⟩) (cur + 1 + 1) c2)).setCell ⟨w.heap.size + 1, 1, none⟩ (.int .i64 ((cur : Int) + 1))))) := fun o w2 gr c2 hg ho hat => by
      have hgr : gr ≠ w.heap.size + 1 := by
        have := Hgg.out
        rcases hat with h | h
        · injection h with h; omega
        · omega
      have q0 : w2.heap[w.heap.size]? = _ := (hg.block w.heap.size (by show _ < (w1.alloc o).heap.size; simp; omega) (by have := Hgg.out; intro e; injection e with e; omega)).trans ((heap_alloc_old w1 o (by omega)).trans R0.out)
      have q1 : w2.heap[w.heap.size + 1]? = _ := (hg.block (w.heap.size + 1) (by show _ < (w1.alloc o).heap.size; simp; omega) (by have := Hgg.out; intro e; injection e with e; omega)).trans ((heap_alloc_old w1 o (by omega)).trans R1.out)
      refine ⟨(cell_of_row _ _ 1 _ _ _ q0).trans rfl, (cell_of_row _ _ 0 _ _ _ q1).trans rfl, (cell_of_row _ _ 1 _ _ _ q1).trans rfl, frozen_of_row _ _ _ _ _ q1, frozen_of_row _ _ _ _ _ q1, ?_, ?_, ?_⟩
      · exact heap_setCell_same _ _ 1 _ _ _ (heap_setCell_same w2 _ 0 _ _ _ q1)
      · rw [List.map_append]
        exact ownsRow_setCell_other (ownsRow_setCell_other ho (by intro e; exact hgr (by injection e)) _) (by intro e; exact hgr (by injection e)) _
      · have hb : Below w.heap.size w ((w1.alloc o).drew) := (HB1.out.alloc HB1.out.size o).drew
        exact ((hb.grown hg (by show _ ≤ (w1.alloc o).heap.size; simp; omega) (fun k hk => by injection hk with hk; have := Hgg.out; omega)).setCell (by show _ ≤ _ + 1; omega) _).setCell (by show _ ≤ _ + 1; omega) _
    have h63 : cur + 1 + 1 ≤ maxLen := by simp only [maxLen]; omega
    have hby : (cur + 1 + 1) * 8 ≤ 140737488355328 := by omega
    have hl0 : w.heap.size < w1.heap.size := by omega
    have hl1 : w.heap.size + 1 < w1.heap.size := by omega
    go_region_law
      ((refine step_append_lies _ (by rfl) _ _ _ (by rfl) w.heap.size 3 i0 _ 1 8 Try.underlying50 hi0 iz0 iz1 iz2 rfl (by omega) (.slice (some ⟨gg, 0, none⟩) (cur + 1) cap) (cur + 1) ((vs.take (cur + 1)).map (Value.int .i64)) (by rfl) ((HO.out.alloc _).drew) ⟨w1.heap.size, 0, none⟩ 1 1 [.int .i64 x] (by rfl) (by rfl) (World.news_of_block (cs := #[.int .i64 x]) (t := 3) (fr := (0, 0)) (heap_alloc_new w1 _)) (one_intH _) (by omega) h63 hby (by simp; omega) (w1.heap.size + 1) (by simp) ?_; intro gr c2 w2 hown2 hgrow2 hat2 hlt2; obtain ⟨k0, k1, k2, k3, k4, k5, k6, k7⟩ := HK.out _ _ _ _ hgrow2 hown2 hat2; clear hgrow2 hown2 hat2))
    all_goals
      go_wp2
      (try simp only [Exit.inBlock, Exit.then])
      refine bodyPost_ret (results_row_tmp' rfl _ _ (w.heap.size + 1) 66 #[.slice (some ⟨gr, 0, none⟩) (cur + 1 + 1) c2, .int .i64 ((cur : Int) + 1)] (0, 0) _ rfl k5.out Try.underlying66 rfl sizeHist) rfl ?_
      exact ⟨.inr ⟨H9.out, gr, c2, rfl, k6⟩, k7⟩
end Go.Proofs.Ytefhnacbgpbdhaa.Tok
