/- Contract of the reference's Locate. -/
import Derived.Test.YtmekdghnkkephaaUnits
namespace Go.Proofs.Ytmekdghnkkephaa.Tok
open Go.RowKit Go.Proofs.Ytmekdghnkkephaa

theorem rloc_world {w wq : World} {b' p : Nat} {fm : ByteArray} {x y z : Value} {T1 T2 : TypeId} {nq : Nat} (hb : b' < w.heap.size) (hd : w.cell? ⟨b', p, none⟩ = some (.string fm))
    (h : ((w.alloc (.cells #[x, y, z] T1)).alloc (.cells #[.string ⟨#[]⟩, .int .i64 0] T2)).drewN nq = wq) :
    wq.cell? ⟨w.heap.size, 0, none⟩ = some x ∧ wq.cell? ⟨w.heap.size, 1, none⟩ = some y ∧ wq.cell? ⟨b', p, none⟩ = some (.string fm) ∧
    wq.heap[w.heap.size + 1]? = some (.cells #[.string ⟨#[]⟩, .int .i64 0] T2 (0, 0)) ∧ Below w.heap.size w wq := by
  subst h
  have hB : Below w.heap.size w (((w.alloc (.cells #[x, y, z] T1)).alloc (.cells #[.string ⟨#[]⟩, .int .i64 0] T2)).drewN nq) :=
    below_drewN (((Below.refl _ _).alloc (Nat.le_refl _) _).alloc (by simp) _) nq
  have h1 : (((w.alloc (.cells #[x, y, z] T1)).alloc (.cells #[.string ⟨#[]⟩, .int .i64 0] T2)).drewN nq).heap[w.heap.size]? = some (.cells #[x, y, z] T1 (0, 0)) := by
    show ((w.alloc (.cells #[x, y, z] T1)).alloc (.cells #[.string ⟨#[]⟩, .int .i64 0] T2)).heap[w.heap.size]? = _
    rw [heap_alloc_old _ _ (by simp)]
    exact heap_alloc_new _ _
  refine ⟨?_, ?_, (hB.cell (p := ⟨b', p, none⟩) hb).trans hd, heap_alloc_2 _ _ _, hB⟩
  · rw [cell_of_row _ _ _ _ _ _ h1]; rfl
  · rw [cell_of_row _ _ _ _ _ _ h1]; rfl

theorem rloc_world0 {w wq : World} {x y z : Value} {T1 T2 : TypeId} {nq : Nat}
    (h : ((w.alloc (.cells #[x, y, z] T1)).alloc (.cells #[.string ⟨#[]⟩, .int .i64 0] T2)).drewN nq = wq) :
    wq.heap[w.heap.size + 1]? = some (.cells #[.string ⟨#[]⟩, .int .i64 0] T2 (0, 0)) ∧ Below w.heap.size w wq := by
  subst h
  exact ⟨heap_alloc_2 _ _ _, below_drewN (((Below.refl _ _).alloc (Nat.le_refl _) _).alloc (by simp) _) nq⟩

set_option maxHeartbeats 1600000 in
set_option maxRecDepth 8000 in
theorem rlocate_any (F A C : Option Addr) (nf n nc cf c cc : Nat) (fs : List ByteArray) (ws : List (ByteArray × Int × Int)) (i : Int) (w : World) (hf : nf ≤ 140737488355328) (hn : n ≤ 140737488355328)
    (hF : Rd w w.heap.size 1 F nf (fs.map Value.string)) (hW : Rd w w.heap.size 3 A n (ws.flatMap wordI)) :
    Calls Try.prog 21 #[.agg #[.slice F nf cf, .slice A n c, .slice C nc cc], .int .i64 i] w fun e w' => e = .returned (locV fs ws i) ∧ Below w.heap.size w w' := by
  have hlf : fs.length = nf := by have := hF.len; simp at this; omega
  have hlw : ws.length = n := by have := hW.len; rw [flat3_len wordI (fun _ => rfl)] at this; omega
  by_cases h : 0 ≤ i ∧ i.toNat < ws.length
  · obtain ⟨k, rfl⟩ : ∃ k : Nat, i = (k : Int) := ⟨i.toNat, by omega⟩
    have hk : k < ws.length := by omega
    obtain ⟨b, off, rfl, hb, hc⟩ := hW.pos (by omega)
    have hc0 := hc (k * 3) _ ((flat3 wordI (fun _ => rfl) ws k 0 hk (by omega)).trans rfl)
    have hc1 := hc (k * 3 + 1) _ ((flat3 wordI (fun _ => rfl) ws k 1 hk (by omega)).trans rfl)
    have hc2 := hc (k * 3 + 2) _ ((flat3 wordI (fun _ => rfl) ws k 2 hk (by omega)).trans rfl)
    obtain ⟨t, f, at_, ht⟩ : ∃ t f at_, ws[k] = (t, f, at_) := ⟨_, _, _, rfl⟩
    have Hv := Lib.hid (show locV fs ws (k : Int) = locT fs (t, f, at_) by
      unfold locV
      rw [if_pos ⟨by omega, by simpa using hk⟩, ← ht]
      simp [hk])
    clear hc hW h
    rw [ht] at hc0 hc1 hc2
    simp only at hc0 hc1 hc2
    rw [← Nat.add_assoc] at hc1 hc2
    have hkn' : k < n := by omega
    have hk0 : decide ((k : Int) < 0) = false := by rw [decide_eq_false_iff_not]; omega
    have hkn : decide (n ≤ k) = false := by rw [decide_eq_false_iff_not]; omega
    clear ht hk
    by_cases h2 : 0 ≤ f ∧ f.toNat < fs.length
    · obtain ⟨m, rfl⟩ : ∃ m : Nat, f = (m : Int) := ⟨f.toNat, by omega⟩
      have hm : m < fs.length := by omega
      obtain ⟨b', off', rfl, hb', hc'⟩ := hF.pos (by omega)
      have hd := hc' m (.string fs[m]) (by simp [hm])
      have HV := Lib.hid (show locT fs (t, (m : Int), at_) = .tuple #[.agg #[.string fs[m], .int .i64 at_], .int .i64 0] by
        unfold locT
        rw [if_pos ⟨by simp, by simpa using hm⟩]
        simp [hm])
      obtain ⟨fm, hfm⟩ : ∃ fm, fm = fs[m] := ⟨_, rfl⟩
      rw [← hfm] at hd HV
      have hmn' : m < nf := by omega
      have hm0 : decide ((m : Int) < 0) = false := by rw [decide_eq_false_iff_not]; omega
      have hmn : decide (nf ≤ m) = false := by rw [decide_eq_false_iff_not]; omega
      clear hc' hF h2 hm hfm
      go_enter Try.func21, Try.ntmps21
      go_wp2
      go_quiet (fail)
      go_wp2
      generalize hwq : World.drewN (World.alloc (World.alloc _ _) _) _ = wq
      obtain ⟨q0, q1, q3, q4, hbq⟩ := rloc_world hb' hd hwq
      have p0 := (hbq.cell (p := ⟨b, off + k * 3, none⟩) hb).trans hc0
      have p1 := (hbq.cell (p := ⟨b, off + k * 3 + 1, none⟩) hb).trans hc1
      have p2 := (hbq.cell (p := ⟨b, off + k * 3 + 2, none⟩) hb).trans hc2
      clear hwq
      go_still_tail 19, (by kernel_rfl)
      refine wpList_store_row rfl 54 (.tmp 4) (.tmp 57) rfl (w.heap.size + 1) #[.string fm, .int .i64 at_] rfl rfl 54 #[.string ⟨#[]⟩, .int .i64 0] q4 sizeG rfl (one_fault _ _) ?_
      go_wp2
      (try simp only [Exit.inBlock, Exit.then])
      refine bodyPost_ret (results_row_tmp rfl _ _ (w.heap.size + 1) 54 #[.string fm, .int .i64 at_] (0, 0) _ rfl (setRow_heap _ _ _ _ _ _ q4) Try.underlying54 rfl sizeG) rfl ?_
      exact ⟨by rw [Hv.out, HV.out]; rfl, hbq.trans ⟨rfl, rfl, rfl, by simp, fun i hi => setRow_other _ _ _ _ (by omega)⟩⟩
    · have HV := Lib.hid (show locT fs (t, f, at_) = noLoc by unfold locT; rw [if_neg h2])
      have h3 : f < 0 ∨ (nf : Int) ≤ f := by omega
      clear h2 hF
      rcases h3 with h3 | h3
      case' inl => have hd3 : decide (f < 0) = true := by rw [decide_eq_true_iff]; exact h3
      case' inr =>
        have hd3 : decide (f < 0) = false := by rw [decide_eq_false_iff_not]; omega
        have hd4 : decide ((nf : Int) ≤ f) = true := by rw [decide_eq_true_iff]; exact h3
      all_goals
        go_enter Try.func21, Try.ntmps21
        go_wp2
        go_quiet (fail)
        generalize hwq : World.drewN (World.alloc (World.alloc _ _) _) _ = wq
        obtain ⟨q4, hbq⟩ := rloc_world0 hwq
        clear hwq
        go_wp2_with (refine wpList_store_row rfl 54 (.tmp 4) (.tmp 38) rfl (w.heap.size + 1) #[.string ⟨#[]⟩, .int .i64 0] rfl rfl 54 #[.string ⟨#[]⟩, .int .i64 0] q4 sizeG rfl (one_fault _ _) ?_)
        (try simp only [Exit.inBlock, Exit.then])
        refine bodyPost_ret (results_row_tmp rfl _ _ (w.heap.size + 1) 54 #[.string ⟨#[]⟩, .int .i64 0] (0, 0) _ rfl (setRow_heap _ _ _ _ _ _ q4) Try.underlying54 rfl sizeG) rfl ?_
        exact ⟨by rw [Hv.out, HV.out]; rfl, hbq.trans ⟨rfl, rfl, rfl, by simp, fun i hi => setRow_other _ _ _ _ (by omega)⟩⟩
  · have Hv := Lib.hid (show locV fs ws i = noLoc by unfold locV; rw [if_neg h])
    clear hF hW
    by_cases h0 : i < 0
    · have hd0 : decide (i < 0) = true := by rw [decide_eq_true_iff]; exact h0
      go_enter Try.func21, Try.ntmps21
      go_wp2
      go_quiet (fail)
      generalize hwq : World.drewN (World.alloc (World.alloc _ _) _) _ = wq
      obtain ⟨q4, hbq⟩ := rloc_world0 hwq
      clear hwq
      go_wp2_with (refine wpList_store_row rfl 54 (.tmp 4) (.tmp 38) rfl (w.heap.size + 1) #[.string ⟨#[]⟩, .int .i64 0] rfl rfl 54 #[.string ⟨#[]⟩, .int .i64 0] q4 sizeG rfl (one_fault _ _) ?_)
      (try simp only [Exit.inBlock, Exit.then])
      refine bodyPost_ret (results_row_tmp rfl _ _ (w.heap.size + 1) 54 #[.string ⟨#[]⟩, .int .i64 0] (0, 0) _ rfl (setRow_heap _ _ _ _ _ _ q4) Try.underlying54 rfl sizeG) rfl ?_
      exact ⟨by rw [Hv.out]; rfl, hbq.trans ⟨rfl, rfl, rfl, by simp, fun i hi => setRow_other _ _ _ _ (by omega)⟩⟩
    · have h1 : (n : Int) ≤ i := by omega
      have hd0 : decide (i < 0) = false := by rw [decide_eq_false_iff_not]; omega
      have hd1 : decide ((n : Int) ≤ i) = true := by rw [decide_eq_true_iff]; exact h1
      go_enter Try.func21, Try.ntmps21
      go_wp2
      go_quiet (fail)
      generalize hwq : World.drewN (World.alloc (World.alloc _ _) _) _ = wq
      obtain ⟨q4, hbq⟩ := rloc_world0 hwq
      clear hwq
      go_wp2_with (refine wpList_store_row rfl 54 (.tmp 4) (.tmp 38) rfl (w.heap.size + 1) #[.string ⟨#[]⟩, .int .i64 0] rfl rfl 54 #[.string ⟨#[]⟩, .int .i64 0] q4 sizeG rfl (one_fault _ _) ?_)
      (try simp only [Exit.inBlock, Exit.then])
      refine bodyPost_ret (results_row_tmp rfl _ _ (w.heap.size + 1) 54 #[.string ⟨#[]⟩, .int .i64 0] (0, 0) _ rfl (setRow_heap _ _ _ _ _ _ q4) Try.underlying54 rfl sizeG) rfl ?_
      exact ⟨by rw [Hv.out]; rfl, hbq.trans ⟨rfl, rfl, rfl, by simp, fun i hi => setRow_other _ _ _ _ (by omega)⟩⟩
end Go.Proofs.Ytmekdghnkkephaa.Tok
