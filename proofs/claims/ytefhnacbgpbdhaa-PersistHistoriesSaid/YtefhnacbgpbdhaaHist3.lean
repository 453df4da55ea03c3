/- Histories: cut, commit, new, fork. -/
import Derived.Test.YtefhnacbgpbdhaaHist2
namespace Go.Proofs.Ytefhnacbgpbdhaa.Tok
open Go.RowKit Go.Proofs.Ytefhnacbgpbdhaa

theorem own_setCells {base gi c n : Nat} {T : TypeId} : ∀ (us : List Value) (o : Nat) (w : World) (xs : List Value), w.ownsRow base T 1 (.slice (some ⟨gi, 0, none⟩) n c) n xs → o + us.length ≤ n →
    (w.setCells gi o us).ownsRow base T 1 (.slice (some ⟨gi, 0, none⟩) n c) n (xs.take o ++ us ++ xs.drop (o + us.length)) ∧ ButAt [gi] w (w.setCells gi o us)
  | [], o, w, xs, h, _ => ⟨by simpa [World.setCells] using h, ButAt.refl _ _⟩
  | u :: us, o, w, xs, h, ho => by
    have hl : o + (us.length + 1) ≤ n := ho
    have hx : xs.length = n := by have := h.1; omega
    obtain ⟨h1, h2⟩ := own_setCells us (o + 1) (w.setCell ⟨gi, o, none⟩ u) _ (h.stored o u).1 (by omega)
    refine ⟨?_, (ButAt.setCell (by simp) u).trans h2⟩
    have e1 : (xs.set o u).take (o + 1) = xs.take o ++ [u] := by
      rw [List.take_add_one, List.take_set_of_le (by omega), List.getElem?_set_self (by omega)]
      rfl
    have e2 : (xs.set o u).drop (o + 1 + us.length) = xs.drop (o + (us.length + 1)) := by
      rw [List.drop_set_of_lt (by omega), show o + 1 + us.length = o + (us.length + 1) by omega]
    rw [e1, e2] at h1
    show ((w.setCell ⟨gi, o, none⟩ u).setCells gi (o + 1) us).ownsRow base T 1 _ n _
    simpa using h1
theorem own_less {base gi c n i : Nat} {T : TypeId} {w : World} {xs : List Value} (h : w.ownsRow base T 1 (.slice (some ⟨gi, 0, none⟩) n c) n xs) (hi : i ≤ n) : w.ownsRow base T 1 (.slice (some ⟨gi, 0, none⟩) i c) i (xs.take i) := by
  have hx := h.1
  refine ⟨by rw [List.length_take]; omega, ?_⟩
  rcases h.2 with ⟨e, _⟩ | ⟨g', cap, cu, e, h1, h2, h3, h4, h5, h6⟩
  · cases e
  · injection e with e1 _ e2
    injection e1 with e1
    injection e1 with e1
    subst e1 e2
    exact .inr ⟨gi, c, cu, rfl, h1, h2, by omega, h4, h5, by rw [← h6, List.take_take]; congr 1; omega⟩

set_option maxHeartbeats 1600000 in
set_option maxRecDepth 8000 in
theorem cutH_any (base g gi c n i : Nat) (zs : List Int) (cu : Value) (w : World) (hrow : w.heap[g]? = some (.cells #[.slice (some ⟨gi, 0, none⟩) n c, cu] 144 (0, 0))) (hown : w.ownsRow base 3 1 (.slice (some ⟨gi, 0, none⟩) n c) n (zs.map (Value.int .i64))) (hlen : zs.length = n) (hi : i ≤ n) :
    Calls Try.prog 79 #[.pointer (some ⟨g, 0, none⟩), .int .i64 (i : Nat)] w fun e w' => e = .returned (.tuple #[]) ∧ Hid (w'.heap[g]? = some (.cells #[.slice (some ⟨gi, 0, none⟩) i c, cu] 144 (0, 0))) ∧
      Hid (w'.ownsRow base 3 1 (.slice (some ⟨gi, 0, none⟩) i c) i ((zs.take i).map (Value.int .i64))) ∧ Hid (ButAt [g, gi] w w') := by
  have c0 : w.cell? ⟨g, 0, none⟩ = some (.slice (some ⟨gi, 0, none⟩) n c) := (cell_of_row _ _ 0 _ _ _ hrow).trans rfl
  have f0 : w.frozen? ⟨g, 0, none⟩ = false := frozen_of_row _ _ _ _ _ hrow
  have hglt : g < w.heap.size := by
    rcases Nat.lt_or_ge g w.heap.size with h1 | h1
    · exact h1
    · rw [Array.getElem?_eq_none h1] at hrow; cases hrow
  have hcc : n ≤ c ∧ c ≤ maxLen := by
    rcases hown.2 with ⟨e, _⟩ | ⟨g', cap, cu', e, h1, h2, h3, h4, h5, h6⟩
    · cases e
    · injection e with _ _ e2
      subst e2
      exact ⟨h3, h4⟩
  have hne : g ≠ gi := by
    rcases hown.2 with ⟨e, _⟩ | ⟨g', cap, cu', e, h1, h2, h3, h4, h5, h6⟩
    · cases e
    · injection e with e1 _ _
      injection e1 with e1
      injection e1 with e1
      subst e1
      rintro rfl
      rw [hrow] at h2
      simp at h2
  have HD : Hid (Calls Try.prog 98 #[.slice (some ⟨gi, 0, none⟩) n c, .int .i64 (i : Nat), .int .i64 (n : Nat)] w.drew fun e w' => e = .returned (.slice (some ⟨gi, 0, none⟩) i c) ∧ w'.cell? ⟨g, 0, none⟩ = some (.slice (some ⟨gi, 0, none⟩) n c) ∧ w'.frozen? ⟨g, 0, none⟩ = false ∧
      Hid ((w'.setCell ⟨g, 0, none⟩ (.slice (some ⟨gi, 0, none⟩) i c)).heap[g]? = some (.cells #[.slice (some ⟨gi, 0, none⟩) i c, cu] 144 (0, 0))) ∧ Hid ((w'.setCell ⟨g, 0, none⟩ (.slice (some ⟨gi, 0, none⟩) i c)).ownsRow base 3 1 (.slice (some ⟨gi, 0, none⟩) i c) i ((zs.take i).map (Value.int .i64))) ∧
      Hid (ButAt [g, gi] w (w'.setCell ⟨g, 0, none⟩ (.slice (some ⟨gi, 0, none⟩) i c)))) := by
    refine (Try.slices_Delete_int_cells gi 0 n c i n zs w.drew (by omega) hcc.1 (by have := hcc.2; simp only [maxLen] at this; omega) hi (Nat.le_refl _) ?_ ?_).mono ?_
    · intro j hj
      have h1 := hown.cellAt j (by omega)
      rw [Nat.zero_add]
      refine h1.trans ?_
      rw [List.getElem?_map, List.getElem?_eq_getElem hj, List.getD_eq_getElem?_getD, List.getElem?_eq_getElem hj]
      rfl
    · intro j hj
      rw [Nat.zero_add]
      exact hown.frozenAt j
    · rintro e w' ⟨rfl, q, rfl⟩
      have hus : (((zs.take n).take i ++ (zs.take n).drop n ++ List.replicate (n - i) (0 : Int)).map (Value.int .i64)).length = n := by simp; omega
      obtain ⟨o1, o2⟩ := own_setCells (((zs.take n).take i ++ (zs.take n).drop n ++ List.replicate (n - i) (0 : Int)).map (Value.int .i64)) 0 (w.drew.drewN q) _ hown (by omega)
      generalize World.setCells (w.drew.drewN q) gi 0 _ = w1 at o1 o2 ⊢
      have o3 : ButAt [gi] w w1 := (ButAt.of (bs := [gi]) (below_drewN (Below.refl _ _).drew q)).trans o2
      have r1 : w1.heap[g]? = some (.cells #[.slice (some ⟨gi, 0, none⟩) n c, cu] 144 (0, 0)) := (o3.block g hglt (by simpa using hne)).trans hrow
      refine ⟨by rw [show n - (n - i) = i by omega], (cell_of_row _ _ 0 _ _ _ r1).trans rfl, frozen_of_row _ _ _ _ _ r1, heap_setCell_same w1 g 0 _ _ _ r1, ?_, (o3.mono (by simp)).trans (ButAt.setCell (by simp) _)⟩
      have o4 := own_less o1 hi
      rw [List.take_zero, List.nil_append, Nat.zero_add, hus] at o4
      have e1 : ((((zs.take n).take i ++ (zs.take n).drop n ++ List.replicate (n - i) (0 : Int)).map (Value.int .i64)) ++ (zs.map (Value.int .i64)).drop n).take i = (zs.take i).map (Value.int .i64) := by
        rw [List.take_append_of_le_length (by omega), ← List.map_take, List.append_assoc, List.take_append_of_le_length (by rw [List.length_take, List.length_take]; omega), List.take_take, Nat.min_self, List.take_take]
        congr 2
        omega
      rw [e1] at o4
      exact ownsRow_setCell_other o4 (by intro e; have e' : gi = g := by injection e
                                         exact hne e'.symm) _
  clear hrow hown hcc
  go_enter Try.func79, Try.ntmps79
  go_region_with (first
    | (go_at_call 98; (with_reducible refine (HD.out).mono ?_); rintro e w1 ⟨rfl, k0, k1, k2, k3, k4⟩))
  all_goals (go_wp2; go_end0; exact ⟨rfl, k2, k3, k4⟩)
end Go.Proofs.Ytefhnacbgpbdhaa.Tok
