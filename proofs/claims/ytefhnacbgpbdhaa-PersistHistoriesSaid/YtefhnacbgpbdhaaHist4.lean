/- Histories: commit, new, fork. -/
import Derived.Test.YtefhnacbgpbdhaaHist3
namespace Go.Proofs.Ytefhnacbgpbdhaa.Tok
open Go.RowKit Go.Proofs.Ytefhnacbgpbdhaa

theorem commitH_none (x : Int) (w : World) : Calls Try.prog 29 #[.pointer none, .int .i64 x] w fun e w' => e = .returned (.int .i64 1) ∧ w' = w := by
  go_enter Try.func29, Try.ntmps29
  go_wp2_with fail
  refine (isMade_none w).mono ?_
  rintro e w' ⟨rfl, hw⟩
  obtain rfl := hw.symm
  clear hw
  go_wp2
  go_ret
  exact ⟨rfl, rfl⟩
set_option maxHeartbeats 1600000 in
set_option maxRecDepth 8000 in
theorem commitH_any (base g gi c : Nat) (vs : List Int) (cur : Nat) (x : Int) (w : World) (h : Hist base w g gi c vs cur) : Calls Try.prog 29 #[.pointer (some ⟨g, 0, none⟩), .int .i64 x] w fun e w' =>
    (cur = 999 ∧ e = .returned (.int .i64 8) ∧ w' = w) ∨ (cur < 999 ∧ e = .returned (.int .i64 0) ∧ ∃ gi' c', Hid (Hist base w' g gi' c' (vs.take (cur + 1) ++ [x]) (cur + 1)) ∧ Hid (ButAt [g, gi] w w') ∧ Hid (gi' = gi ∨ w.heap.size ≤ gi')) := by
  have h0 := h.c0
  have h1 := h.c1
  have hf := h.f 1
  have hlt := h.lt
  have hle := h.le
  have hpos : 0 < vs.length := by omega
  have H := Lib.hid h
  clear h
  have HM := Lib.hid (isMade_any g vs.length c _ w h0 hpos)
  have hcs : cur = 999 ∨ cur < 999 := by omega
  rcases hcs with hc | hc
  · have g1 : decide ((999 : Int) ≤ (cur : Int)) = true := decide_eq_true (by omega)
    have g2 : decide (999 ≤ cur) = true := decide_eq_true (by omega)
    have Hc := Lib.hid hc
    have g3 : (999 : Int) ≤ (cur : Int) := by omega
    clear hlt hle hpos hc
    go_enter Try.func29, Try.ntmps29
    go_wp2_with fail
    refine (HM.out).mono ?_
    rintro e w' ⟨rfl, hw⟩
    obtain rfl := hw.symm
    clear hw
    go_wp2
    go_ret
    exact .inl ⟨Hc.out, rfl, rfl⟩
  · have g1 : decide ((999 : Int) ≤ (cur : Int)) = false := decide_eq_false (by omega)
    have g2 : decide (999 ≤ cur) = false := decide_eq_false (by omega)
    have hw1 : IntKind.i64.wrap ((cur : Int) + 1) = (cur : Int) + 1 := IntWalk.i64_in _ (by omega)
    have hw2 : Hid ((cur : Int) + 1 = ((cur + 1 : Nat) : Int)) := by show _ = _; omega
    have Hlt := Lib.hid hlt
    have Hle := Lib.hid hle
    clear hlt hle hpos
    go_enter Try.func29, Try.ntmps29
    go_wp2_with fail
    refine (HM.out).mono ?_
    rintro e w' ⟨rfl, hw⟩
    obtain rfl := hw.symm
    clear hw
    go_wp2_with fail
    generalize hw1e : World.setCell w _ _ = w1
    have b1 : ButAt [g, gi] w w1 := by subst hw1e; exact ButAt.setCell (by simp) _
    have r1 : w1.heap[g]? = some (.cells #[.slice (some ⟨gi, 0, none⟩) vs.length c, .int .i64 ((cur + 1 : Nat) : Int)] 144 (0, 0)) := by subst hw1e; exact heap_setCell_same w g 1 _ _ _ H.out.row
    have o1 : w1.ownsRow base 3 1 (.slice (some ⟨gi, 0, none⟩) vs.length c) vs.length (vs.map (Value.int .i64)) := by
      subst hw1e
      exact ownsRow_setCell_other H.out.own (by intro e; have e' : gi = g := by injection e
                                                exact H.out.ne e'.symm) _
    clear hw1e h0 h1 hf
    have c1 : w1.cell? ⟨g, 1, none⟩ = some (.int .i64 ((cur : Int) + 1)) := (cell_of_row _ _ 1 _ _ _ r1).trans (by rw [hw2.out]; rfl)
    have HC : Hid (Calls Try.prog 79 #[.pointer (some ⟨g, 0, none⟩), .int .i64 ((cur : Int) + 1)] w1.drew fun e w' => e = .returned (.tuple #[]) ∧ Hid (w'.heap[g]? = some (.cells #[.slice (some ⟨gi, 0, none⟩) (cur + 1) c, .int .i64 ((cur + 1 : Nat) : Int)] 144 (0, 0))) ∧
        Hid (w'.ownsRow base 3 1 (.slice (some ⟨gi, 0, none⟩) (cur + 1) c) (cur + 1) ((vs.take (cur + 1)).map (Value.int .i64))) ∧ Hid (ButAt [g, gi] w1.drew w')) := by
      rw [hw2.out]
      exact cutH_any base g gi c vs.length (cur + 1) vs (.int .i64 ((cur + 1 : Nat) : Int)) w1.drew r1 o1 rfl (by have := Hlt.out; omega)
    have B1 := Lib.hid b1
    clear r1 o1 b1
    go_region_with (first
      | (go_at_call 79; (with_reducible refine (HC.out).mono ?_); rintro e w2 ⟨rfl, r2, o2, b2⟩))
    all_goals
      go_wp2_with fail
      refine (addH_any base g (.slice (some ⟨gi, 0, none⟩) (cur + 1) c) (.int .i64 ((cur + 1 : Nat) : Int)) (cur + 1) _ x w2 r2.out o2.out (by omega) (by
        have := H.out.gilt; have := B1.out.size; have := b2.out.size; simp at this; omega)).mono ?_
      rintro e w3 ⟨rfl, gi', c', r3, o3, b3, hl⟩
      go_wp2
      go_ret
      have hsz : w.heap.size ≤ w2.heap.size := by have := B1.out.size; have := b2.out.size; simp at this; omega
      have hlen : (vs.take (cur + 1) ++ [x]).length = cur + 1 + 1 := by have := Hlt.out; simp; omega
      refine .inr ⟨hc, rfl, gi', c', ⟨?_, ?_, by omega, by omega, H.out.bg⟩, ?_, ?_⟩
      · rw [hlen]; exact r3.out
      · rw [hlen, List.map_append]; exact o3.out
      · exact (B1.out.trans ((ButAt.of (bs := [g, gi]) (Below.refl _ _).drew).trans b2.out)).trans (b3.out [g, gi] (by simp) (fun k hk => by injection hk with hk; subst hk; simp))
      · rcases hl.out with h1 | h1
        · have e' : gi = gi' := by injection h1
          exact .inl e'.symm
        · exact .inr (by omega)
set_option maxHeartbeats 1600000 in
set_option maxRecDepth 8000 in
theorem newH_any (x : Int) (w : World) : Calls Try.prog 28 #[.int .i64 x] w fun e w' => ∃ g gi c, e = .returned (.pointer (some ⟨g, 0, none⟩)) ∧ Hid (Hist w.heap.size w' g gi c [x] 0) ∧ Below w.heap.size w w' := by
  go_enter Try.func28, Try.ntmps28
  go_wp2_with fail
  refine (addH_any w.heap.size w.heap.size (.slice none 0 0) (.int .i64 0) 0 [] x _ (heap_alloc_new w _) (World.ownsRow_nil _ _ _ _) (by omega) (by simp)).mono ?_
  rintro e w3 ⟨rfl, gi', c', r3, o3, b3, hl⟩
  go_wp2
  go_ret
  refine ⟨_, gi', c', rfl, ⟨r3.out, o3.out, by simp, by simp, Nat.le_refl _⟩, ?_⟩
  exact ((Below.refl _ _).alloc (Nat.le_refl _) _).trans ((b3.out [w.heap.size] (by simp) (fun k hk => by simp [Value.ownBlock] at hk)).below (by simp) (by simp))

theorem forkH_none (w : World) : Calls Try.prog 35 #[.pointer none] w fun e w' => e = .returned (.pointer none) ∧ w' = w := by
  go_enter Try.func35, Try.ntmps35
  go_wp2_with fail
  refine (isMade_none w).mono ?_
  rintro e w' ⟨rfl, hw⟩
  obtain rfl := hw.symm
  clear hw
  go_wp2
  go_ret
  exact ⟨rfl, rfl⟩
end Go.Proofs.Ytefhnacbgpbdhaa.Tok
