/- The reference's sets: NewSets, Find. -/
import Derived.Test.YtimgnmlcgnibhaaBoth
import Derived.Test.YtimgnmlcgnibhaaTreeOps
import Derived.Test.YtimgnmlcgnibhaaTreeJoinT
namespace Go.Proofs.Ytimgnmlcgnibhaa.Tok
open Go.RowKit Go.Proofs.Ytimgnmlcgnibhaa

theorem sizeRS : (Try.prog.info? 84).map (·.size) = some 2 := by kernel_rfl
theorem one_rs (A B : Option Addr) (n c p d : Nat) : (#[Value.slice A n c, .slice B p d].all (·.oneCell')) = true := by simp [Value.oneCell']
set_option maxHeartbeats 1600000 in
set_option maxRecDepth 8000 in
theorem rfind_in (A1 A2 : Option Addr) (n c1 p c2 a x : Nat) (cur : List Nat) (w : World) (h : RdT w 3 A1 n (nats cur)) (hn : n ≤ 10000) (hx : cur[a]? = some x) :
    Calls Try.prog 47 #[.agg #[.slice A1 n c1, .slice A2 p c2], .int .i64 a] w fun e w' => e = .returned (.tuple #[.int .i64 (x : Nat), .int .i64 0]) ∧ Below w.heap.size w w' := by
  have ha : a < n := by
    have h1 := (List.getElem?_eq_some_iff.1 hx).1
    have h2 := h.1
    rw [nats_len] at h2
    omega
  obtain ⟨b, off, rfl, hb, hc⟩ := h.rd.pos (by omega)
  have hcell := hc a (.int .i64 (x : Nat)) (by unfold nats; rw [List.getElem?_map, hx]; rfl)
  clear hc h hx
  have g1 : decide ((a : Int) < 0) = false := decide_eq_false (by omega)
  have g2 : decide (n ≤ a) = false := decide_eq_false (by omega)
  go_enter Try.func47, Try.ntmps47
  go_wp2
  go_ret2
  exact ⟨rfl, (Below.refl _ _).alloc (Nat.le_refl _) _⟩
set_option maxHeartbeats 1600000 in
set_option maxRecDepth 8000 in
theorem rfind_out (A1 A2 : Option Addr) (n c1 p c2 : Nat) (a : Int) (w : World) (ha : inR a n = false) :
    Calls Try.prog 47 #[.agg #[.slice A1 n c1, .slice A2 p c2], .int .i64 a] w fun e w' => e = .returned (.tuple #[.int .i64 0, .int .i64 3]) ∧ Below w.heap.size w w' := by
  have h0 := of_decide_eq_false ha
  clear ha
  by_cases h1 : a < 0
  · have g1 : decide (a < 0) = true := decide_eq_true h1
    clear h0
    go_enter Try.func47, Try.ntmps47
    go_wp2
    go_ret2
    exact ⟨rfl, (Below.refl _ _).alloc (Nat.le_refl _) _⟩
  · have g1 : decide (a < 0) = false := decide_eq_false h1
    have g2 : decide ((n : Int) ≤ a) = true := decide_eq_true (by omega)
    clear h0 h1
    go_enter Try.func47, Try.ntmps47
    go_wp2
    go_ret2
    exact ⟨rfl, (Below.refl _ _).alloc (Nat.le_refl _) _⟩
set_option maxHeartbeats 1600000 in
set_option maxRecDepth 8000 in
theorem rnewSets_no (n : Int) (w : World) (h : ¬ (0 ≤ n ∧ n ≤ 10000)) :
    Calls Try.prog 39 #[.int .i64 n] w fun e w' => e = .returned (.tuple #[.agg #[.slice none 0 0, .slice none 0 0], .int .i64 3]) ∧ Below w.heap.size w w' := by
  have HB : Hid (∀ o cs, Below w.heap.size w ((w.alloc o).setRow w.heap.size cs)) := fun o cs => setRow_below ((Below.refl _ _).alloc (Nat.le_refl _) _) (by omega) _
  have HR : Hid (∀ o, (w.alloc o).heap[w.heap.size]? = some o) := fun o => heap_alloc_new _ _
  have h2 : n < 0 ∨ (¬ n < 0 ∧ 10000 < n) := by omega
  clear h
  rcases h2 with h2 | ⟨h1, h2⟩
  case' inl => have g1 : decide (n < 0) = true := decide_eq_true h2
  case' inr => have g1 : decide (n < 0) = false := decide_eq_false h1
  case' inr => have g2 : decide (10000 < n) = true := decide_eq_true h2
  all_goals
    go_enter Try.func39, Try.ntmps39
    go_wp2_with (refine wpList_store_row rfl 84 (.tmp 2) (.tmp 12) rfl w.heap.size #[.slice none 0 0, .slice none 0 0] rfl rfl 84 #[.slice none 0 0, .slice none 0 0] (HR.out _) sizeRS rfl (one_rs _ _ _ _ _ _) ?_)
    (try simp only [Exit.inBlock, Exit.then])
    refine bodyPost_ret (results_row_tmp' rfl _ _ w.heap.size 84 #[.slice none 0 0, .slice none 0 0] (0, 0) _ rfl (setRow_heap _ _ _ _ _ _ (HR.out _)) Try.underlying84 rfl sizeRS) rfl ?_
    exact ⟨rfl, HB.out _ _⟩
set_option maxHeartbeats 1600000 in
set_option maxRecDepth 8000 in
theorem rnewSets_yes (n : Nat) (w : World) (h : n ≤ 60) :
    Calls Try.prog 39 #[.int .i64 n] w fun e w' => ∃ A c, e = .returned (.tuple #[.agg #[.slice A n c, .slice none 0 0], .int .i64 0]) ∧ Hid (RdT w' 3 A n (nats (List.range n))) ∧ Below w.heap.size w w' := by
  obtain ⟨i1, hi1, jz0, jz1, jz2⟩ := info_parts infoIn12
  have g1 : decide ((n : Int) < 0) = false := decide_eq_false (by omega)
  have g2 : decide (10000 < n) = false := decide_eq_false (by omega)
  go_enter Try.func39, Try.ntmps39
  go_wp2
  generalize hwq : World.alloc (World.alloc _ _) _ = wq
  have r0 : wq.heap[w.heap.size]? = some (.cells #[.slice none 0 0, .slice none 0 0] 84 (0, 0)) := by
    subst hwq
    rw [heap_alloc_old _ _ (by simp)]
    exact heap_alloc_new _ _
  have r1 : wq.heap[w.heap.size + 1]? = some (.cells #[.slice none 0 0, .slice none 0 0] 84 (0, 0)) := by subst hwq; exact ptr_alloc_2 _ _ _
  have hbq : Below w.heap.size w wq := by subst hwq; exact ((Below.refl _ _).alloc (Nat.le_refl _) _).alloc (by simp) _
  have R0 := Lib.hid r0
  have R1 := Lib.hid r1
  have HBq := Lib.hid hbq
  clear hwq r0 r1 hbq g1 g2
  go_loopw [5] (fun iv wr => ∃ (k : Nat) (A : Option Addr) (c : Nat), k ≤ n ∧ iv = .int .i64 k ∧ Hid (wr.heap[w.heap.size]? = some (.cells #[.slice none 0 0, .slice none 0 0] 84 (0, 0))) ∧ Hid (wr.heap[w.heap.size + 1]? = some (.cells #[.slice A k c, .slice none 0 0] 84 (0, 0))) ∧
    Hid (wr.ownsRow w.heap.size 3 1 (.slice A k c) k (nats (List.range k))) ∧ Below w.heap.size w wr) (fun i _ => n - (intOf i).toNat)
  case atStart => exact ⟨0, none, 0, Nat.zero_le _, rfl, R0.out, R1.out, World.ownsRow_nil _ _ _ _, HBq.out⟩
  case round =>
    clear R0 R1 HBq
    obtain ⟨k, A, c, hk, rfl, r0, r1, own, hb⟩ := hrel
    have hz := hb.size
    have hgs := (Array.getElem?_eq_some_iff.1 r1.out).1
    by_cases hlt : k < n
    · have c1 := (cell_of_row _ _ 0 _ _ _ r1.out).trans (rfl : _ = some (Value.slice A k c))
      have h63 : k + 1 ≤ maxLen := by simp only [maxLen]; omega
      have hby : (k + 1) * 8 ≤ 140737488355328 := by omega
      have HN : Hid (∀ (g1 cap1 : Nat) (w1 : World), w1.ownsRow w.heap.size 3 1 (.slice (some ⟨g1, 0, none⟩) (k + 1) cap1) (k + 1) (nats (List.range k) ++ [.int .i64 (k : Nat)]) → (wr.alloc (.cells #[.int .i64 (k : Nat)] 3)).grownBy w1 (Value.slice A k c).ownBlock →
          w1.cell? ⟨w.heap.size + 1, 0, none⟩ = some (.slice A k c) ∧ w1.frozen? ⟨w.heap.size + 1, 0, none⟩ = false ∧ Hid ((w1.setCell ⟨w.heap.size + 1, 0, none⟩ (.slice (some ⟨g1, 0, none⟩) (k + 1) cap1)).heap[w.heap.size]? = some (.cells #[.slice none 0 0, .slice none 0 0] 84 (0, 0))) ∧
          Hid ((w1.setCell ⟨w.heap.size + 1, 0, none⟩ (.slice (some ⟨g1, 0, none⟩) (k + 1) cap1)).heap[w.heap.size + 1]? = some (.cells #[.slice (some ⟨g1, 0, none⟩) (k + 1) cap1, .slice none 0 0] 84 (0, 0))) ∧
          Hid ((w1.setCell ⟨w.heap.size + 1, 0, none⟩ (.slice (some ⟨g1, 0, none⟩) (k + 1) cap1)).ownsRow w.heap.size 3 1 (.slice (some ⟨g1, 0, none⟩) (k + 1) cap1) (k + 1) (nats (List.range (k + 1)))) ∧ Hid (Below w.heap.size w (w1.setCell ⟨w.heap.size + 1, 0, none⟩ (.slice (some ⟨g1, 0, none⟩) (k + 1) cap1)))) := fun g1 cap1 w1 h1 h2 => by
        have hg := (World.grownBy_alloc wr (.cells #[.int .i64 (k : Nat)] 3) (Value.slice A k c).ownBlock).trans h2
        have q0 := (hg.block w.heap.size (by omega) (own_apartS own.out r0.out (by decide))).trans r0.out
        have q1 := (hg.block (w.heap.size + 1) (by omega) (own_apartS own.out r1.out (by decide))).trans r1.out
        have hr : nats (List.range k) ++ [.int .i64 (k : Nat)] = nats (List.range (k + 1)) := by rw [List.range_succ]; exact nats_snoc _ _
        rw [hr] at h1
        refine ⟨(cell_of_row _ _ 0 _ _ _ q1).trans rfl, frozen_of_row _ _ _ _ _ q1, ?_, heap_setCell_same w1 _ 0 _ _ _ q1, own_setCell_other h1 (own_apartS h1 q1 (by decide)) _, (hb.grown hg hz (fun q hq => (own.out.lt q hq).1)).setCell (by show _ ≤ _ + 1; omega) _⟩
        show _ = _
        rw [heap_setCell_other _ _ _ _ (by show w.heap.size ≠ w.heap.size + 1; omega)]
        exact q0
      clear r0 r1
      go_wp2_with (at_builtin; refine wpList_append_lies _ rfl _ _ 50 rfl w.heap.size 3 i1 _ 1 8 Try.underlying50 hi1 jz0 jz1 jz2 rfl (by omega) (.slice A k c) k (nats (List.range k)) rfl (own.out.alloc _) ⟨wr.heap.size, 0, none⟩ 1 1 [.int .i64 (k : Nat)] rfl rfl (cell_one_new _ _ _) (by simp [Value.oneCell']) (by omega) h63 hby (by simp; omega) (wr.heap.size + 1) (by simp) ?_; intro g1 cap1 w1 hown1 hgrow1 hat1 hlt1; obtain ⟨kc, kf, K0, K1, KO, KB⟩ := HN.out _ _ _ hown1 hgrow1; clear hown1 hgrow1 hat1)
      go_light
      exact ⟨⟨k + 1, _, _, by omega, by go_num, K0.out, K1.out, KO.out, KB.out⟩, by simp [intOf]; omega⟩
    · obtain rfl : k = n := by omega
      have HF : Hid (RdT (wr.setRow w.heap.size #[.slice A k c, .slice none 0 0]) 3 A k (nats (List.range k)) ∧ Below w.heap.size w (wr.setRow w.heap.size #[.slice A k c, .slice none 0 0])) := by
        refine ⟨?_, setRow_below hb (Nat.le_refl _) _⟩
        have h1 := RdT.own own.out
        refine ⟨h1.1, fun hn => ?_⟩
        obtain ⟨b, off, cs, fr, e, hh, hc⟩ := h1.2 hn
        refine ⟨b, off, cs, fr, e, (setRow_other _ _ _ _ ?_).trans hh, hc⟩
        rintro rfl
        have h2 := r0.out
        rw [hh] at h2
        injection h2 with h2
        injection h2 with _ h2
        revert h2
        decide
      go_wp2_with (first
        | (refine wpList_load_row rfl 84 (.tmp 4) rfl (w.heap.size + 1) rfl 84 #[.slice A k c, .slice none 0 0] (0, 0) _ r1.out Try.underlying84 rfl sizeRS ?_)
        | (refine wpList_store_row rfl 84 (.tmp 2) (.tmp 25) rfl w.heap.size #[.slice A k c, .slice none 0 0] rfl rfl 84 #[.slice none 0 0, .slice none 0 0] r0.out sizeRS rfl (one_rs _ _ _ _ _ _) ?_))
      (try simp only [Exit.inBlock, Exit.then])
      refine bodyPost_ret (results_row_tmp' rfl _ _ w.heap.size 84 #[.slice A k c, .slice none 0 0] (0, 0) _ rfl (setRow_heap _ _ _ _ _ _ r0.out) Try.underlying84 rfl sizeRS) rfl ?_
      exact ⟨A, c, rfl, HF.out.1, HF.out.2⟩
end Go.Proofs.Ytimgnmlcgnibhaa.Tok
