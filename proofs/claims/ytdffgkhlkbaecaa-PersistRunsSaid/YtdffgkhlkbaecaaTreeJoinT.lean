/- Contract of the method Join. -/
import Derived.Test.YtdffgkhlkbaecaaTreeAt
namespace Go.Proofs.Ytdffgkhlkbaecaa.Tok
open Go.RowKit Go.Proofs.Ytdffgkhlkbaecaa
attribute [local go_sem ↓] Go.wp_at_zero Go.wp_at_succ

def joinT (t u : Tr ByteArray) : Tr ByteArray × Bool := match t.nth ((t.size : Int) - 1), u.nth 0 with
  | some a, some b => if 0 ≤ cmpS a.1 b.1 then (.nil, false) else (Tr.concat t u, true)
  | _, _ => (Tr.concat t u, true)
theorem joinT_parts (t u : Tr ByteArray) : ∃ (a1 a2 : ByteArray) (x1 x2 : Int) (o1 o2 : Bool), atV (t.nth ((t.size : Int) - 1)) = .tuple #[.string a1, .int .i64 x1, .bool o1] ∧ atV (u.nth 0) = .tuple #[.string a2, .int .i64 x2, .bool o2] ∧
    joinT t u = if o1 && (o2 && decide (0 ≤ cmpS a1 a2)) then (.nil, false) else (Tr.concat t u, true) := by
  unfold joinT
  cases t.nth ((t.size : Int) - 1) with
  | none =>
    cases u.nth 0 with
    | none => exact ⟨_, _, _, _, false, false, rfl, rfl, by simp⟩
    | some b => exact ⟨_, _, _, _, false, true, rfl, rfl, by simp⟩
  | some a =>
    cases u.nth 0 with
    | none => exact ⟨_, _, _, _, true, false, rfl, rfl, by simp⟩
    | some b => exact ⟨_, _, _, _, true, true, rfl, rfl, by simp⟩
theorem results_row_tmp' {P : Program} {fn : Func} {p u : Tmp} {ty : TypeId} (h : fn.results = #[.cell p ty, .tmp u]) (tmps : Array Value) (w : World) (g : Nat) (t : TypeId) (cs : Array Value) (fr : Nat × Nat) (d : TypeDesc)
    (hp : tmps.getD p undef = .pointer (some ⟨g, 0, none⟩)) (hg : w.heap[g]? = some (.cells cs t fr))
    (hu : P.underlying ty = some d) (hd : (match d with | .struct _ | .array _ _ => true | _ => false) = true) (hi : (P.info? ty).map (·.size) = some cs.size) :
    (results fn tmps).run P w = .ok (.tuple #[.agg cs, tmps.getD u undef]) w := by
  have hp' : tmps[p]?.getD undef = .pointer (some ⟨g, 0, none⟩) := by simpa using hp
  simp [results, h, hp', asAddr, run_loadVar_row w g t ty cs fr d hg hu hd hi, Result.andThen]

set_option maxHeartbeats 3200000 in
set_option maxRecDepth 8000 in
theorem joinT_any (p q : Option Addr) (t u : Tr ByteArray) (w : World) (ht : Is Value.string 98 w p t) (hu : Is Value.string 98 w q u) (hs : t.size + u.size ≤ 1000000) :
    Calls Try.prog 25 #[.agg #[.pointer p], .agg #[.pointer q]] w fun e w' => ∃ r, e = .returned (.tuple #[.agg #[.pointer r], .bool (joinT t u).2]) ∧ Is Value.string 98 w' r (joinT t u).1 ∧ Below w.heap.size w w' := by
  have HT := Lib.hid ht
  have HU := Lib.hid hu
  obtain ⟨a1, a2, x1, x2, o1, o2, hE1, hE2, hJ⟩ := joinT_parts t u
  have HE1 := Lib.hid hE1
  have HE2 := Lib.hid hE2
  have HJ := Lib.hid hJ
  generalize joinT t u = J at HJ ⊢
  clear ht hu hE1 hE2 hJ
  have hcase : (∃ oo, (o1 && oo) = false ∧ J = (Tr.concat t u, true) ∧ ((o1 = false) ∨ (o1 = true ∧ o2 = false) ∨ (o1 = true ∧ o2 = true ∧ cmpS a1 a2 = -1))) ∨ (o1 = true ∧ o2 = true ∧ (cmpS a1 a2 = 0 ∨ cmpS a1 a2 = 1) ∧ J = (.nil, false)) := by
    have hj : J = if o1 && (o2 && decide (0 ≤ cmpS a1 a2)) then (.nil, false) else (Tr.concat t u, true) := HJ.out
    have hcm : cmpS a1 a2 = -1 ∨ cmpS a1 a2 = 0 ∨ cmpS a1 a2 = 1 := by rcases cmpS_cases a1 a2 with ⟨_, e⟩ | ⟨_, _, e⟩ | ⟨_, _, e⟩ <;> simp [e]
    cases o1
    · exact .inl ⟨false, rfl, by rw [hj]; simp, .inl rfl⟩
    · cases o2
      · exact .inl ⟨false, rfl, by rw [hj]; simp, .inr (.inl ⟨rfl, rfl⟩)⟩
      · rcases hcm with e | e | e
        · exact .inl ⟨false, rfl, by rw [hj]; simp [e], .inr (.inr ⟨rfl, rfl, e⟩)⟩
        · exact .inr ⟨rfl, rfl, .inl e, by rw [hj]; simp [e]⟩
        · exact .inr ⟨rfl, rfl, .inr e, by rw [hj]; simp [e]⟩
  have Hcase := Lib.hid hcase
  clear hcase HJ
  go_enter Try.func25, Try.ntmps25
  go_wp2_with fail
  generalize hwq : World.alloc (World.alloc (World.alloc _ _) _) _ = wq
  have hbq : Below w.heap.size w wq := by subst hwq; exact (((Below.refl _ _).alloc (Nat.le_refl _) _).alloc (by simp) _).alloc (by simp; omega) _
  have hsq : wq.heap.size = w.heap.size + 3 := by subst hwq; simp
  have hr0 : wq.heap[w.heap.size]? = some (.cells #[.pointer p] 27 (0, 0)) := by subst hwq; rw [heap_alloc_old _ _ (by simp; omega), heap_alloc_old _ _ (by simp)]; exact heap_alloc_new _ _
  have hr1 : wq.heap[w.heap.size + 1]? = some (.cells #[.pointer q] 27 (0, 0)) := by subst hwq; rw [heap_alloc_old _ _ (by simp)]; exact ptr_alloc_2 _ _ _
  have hr2 : wq.heap[w.heap.size + 1 + 1]? = some (.cells #[.pointer none] 27 (0, 0)) := by
    subst hwq
    have := heap_alloc_new ((w.alloc (.cells #[.pointer p] 27)).alloc (.cells #[.pointer q] 27)) (.cells #[.pointer none] 27)
    rwa [show ((w.alloc (.cells #[.pointer p] 27)).alloc (.cells #[.pointer q] 27)).heap.size = w.heap.size + 1 + 1 by simp] at this
  clear hwq
  have Hsq := Lib.hid hsq
  have Hbq := Lib.hid hbq
  have HR : Hid (∀ w1, Below wq.heap.size wq w1 → w1.heap[w.heap.size]? = some (.cells #[.pointer p] 27 (0, 0)) ∧ w1.heap[w.heap.size + 1]? = some (.cells #[.pointer q] 27 (0, 0)) ∧ w1.heap[w.heap.size + 1 + 1]? = some (.cells #[.pointer none] 27 (0, 0)) ∧
      w1.cell? ⟨w.heap.size, 0, none⟩ = some (.pointer p) ∧ w1.cell? ⟨w.heap.size + 1, 0, none⟩ = some (.pointer q) ∧ Below w.heap.size w w1 ∧ Is Value.string 98 w1 p t ∧ Is Value.string 98 w1 q u) := fun w1 hb => by
    have a0 := (hb.block w.heap.size (by omega)).trans hr0
    have a1 := (hb.block (w.heap.size + 1) (by omega)).trans hr1
    have a2 := (hb.block (w.heap.size + 1 + 1) (by omega)).trans hr2
    have hb' : Below w.heap.size w w1 := hbq.trans (hb.mono hbq.size)
    exact ⟨a0, a1, a2, (cell_of_row _ _ _ _ _ _ a0).trans rfl, (cell_of_row _ _ _ _ _ _ a1).trans rfl, hb', HT.out.below hb', HU.out.below hb'⟩
  clear hr0 hr1 hr2 hsq hbq
  obtain ⟨-, -, -, c0, c1, -⟩ := HR.out wq (Below.refl _ _)
  have HSz : Hid (∀ w1, Below wq.heap.size wq w1 → Calls Try.prog 30 #[.agg #[.pointer p]] w1 fun e w' => e = .returned (.int .i64 (t.size : Nat)) ∧ Below w1.heap.size w1 w') := fun w1 hb => sizeT_any p t w1 (HR.out w1 hb).2.2.2.2.2.2.1
  have HAt : Hid (∀ w1, Below wq.heap.size wq w1 → Calls Try.prog 17 #[.agg #[.pointer p], .int .i64 ((t.size : Nat) - 1)] w1 fun e w' => e = .returned (.tuple #[.string a1, .int .i64 x1, .bool o1]) ∧ Below w1.heap.size w1 w') := fun w1 hb => by rw [← HE1.out]; exact atT_any p t _ w1 (HR.out w1 hb).2.2.2.2.2.2.1 (by omega) (by omega) (by omega)
  have HAu : Hid (∀ w1, Below wq.heap.size wq w1 → Calls Try.prog 17 #[.agg #[.pointer q], .int .i64 0] w1 fun e w' => e = .returned (.tuple #[.string a2, .int .i64 x2, .bool o2]) ∧ Below w1.heap.size w1 w') := fun w1 hb => by rw [← HE2.out]; exact atT_any q u _ w1 (HR.out w1 hb).2.2.2.2.2.2.2 (by omega) (by omega) (by omega)
  have HCo : Hid (∀ w1, Below wq.heap.size wq w1 → Calls Try.prog 50 #[.pointer p, .pointer q] w1 (Makes Value.string 98 w1 (Tr.concat t u))) := fun w1 hb => concatS_any t u p q w1 (HR.out w1 hb).2.2.2.2.2.2.1 (HR.out w1 hb).2.2.2.2.2.2.2 hs
  have htz : t.size ≤ 1000000 := by omega
  obtain ⟨n, hn⟩ : ∃ n, n = t.size := ⟨_, rfl⟩
  rw [← hn] at HSz htz
  have HAt' : Hid (∀ w1, Below wq.heap.size wq w1 → Calls Try.prog 17 #[.agg #[.pointer p], .int .i64 ((n : Int) - 1)] w1 fun e w' => e = .returned (.tuple #[.string a1, .int .i64 x1, .bool o1]) ∧ Below w1.heap.size w1 w') := fun w1 hb => by rw [hn]; exact HAt.out w1 hb
  clear HAt hn
  have hw1 : IntKind.i64.wrap ((n : Int) - 1) = (n : Int) - 1 := IntWalk.i64_in _ (by omega)
  have Hd1 : Hid (∀ w1, Below wq.drew.heap.size wq.drew w1 → Below wq.heap.size wq w1 ∧ w1.cell? ⟨w.heap.size, 0, none⟩ = some (.pointer p)) := fun w1 h =>
    have h' : Below wq.heap.size wq w1 := (Below.refl _ _).drew.trans h
    ⟨h', (HR.out w1 h').2.2.2.1⟩
  have Hd2 : Hid (∀ w1 w2, Below wq.heap.size wq w1 → Below w1.heap.size w1 w2 → Below wq.heap.size wq w2 ∧ w2.cell? ⟨w.heap.size, 0, none⟩ = some (.pointer p)) := fun w1 w2 h h2 =>
    have h' : Below wq.heap.size wq w2 := h.trans (h2.mono h.size)
    ⟨h', (HR.out w2 h').2.2.2.1⟩
  go_region_held3 (fun w' => w'.cell? ⟨w.heap.size, 0, none⟩ = some (.pointer p)) (first | exact c0 | exact cb2 | exact cb1)
    (first
      | (go_at_call 30; (with_reducible refine (HSz.out _ (Below.refl _ _).drew).mono ?_); rintro e w1 ⟨rfl, hb1'⟩; obtain ⟨hb1, cb1⟩ := Hd1.out _ hb1')
      | (go_at_call 17; (with_reducible refine (HAt'.out _ hb1).mono ?_); rintro e w2 ⟨rfl, hb2'⟩; obtain ⟨hb2, cb2⟩ := Hd2.out _ _ hb1 hb2'))
  have hb2' := Lib.hid hb2
  obtain ⟨-, -, -, -, d1, -⟩ := HR.out w2 hb2
  have hr1 := Lib.hid (HR.out w2 hb2).2.1
  go_wp2_with (refine wpList_load_row rfl 27 (.tmp 3) rfl (w.heap.size + 1) rfl 27 #[.pointer q] (0, 0) _ hr1.out Try.underlying27 rfl sizeTree ?_)
  refine (HAu.out w2 hb2'.out).mono ?_
  rintro e w3 ⟨rfl, hb3⟩
  have Hb3 := Lib.hid (hb2'.out.trans (hb3.mono hb2'.out.size))
  obtain ⟨-, -, hrow, e0, e1, -⟩ := HR.out w3 Hb3.out
  have Hrow := Lib.hid hrow
  clear hrow hb3 hb2 hb1 cb1 cb2 hw1 c0 c1 d1
  rcases Hcase.out with ⟨oo, ho, hJ, hc⟩ | ⟨rfl, rfl, hc, hJ⟩
  · have HJ := Lib.hid hJ
    clear hJ ho
    rcases hc with rfl | ⟨rfl, rfl⟩ | ⟨rfl, rfl, hc⟩
    case' inr.inr => have Hc := Lib.hid hc; clear hc
    all_goals
      go_wp2_with (go_at_call 51; refine (compS_any a1 a2 w3).mono ?_; rintro e w' ⟨rfl, hw⟩; obtain rfl := hw.symm; clear hw; rw [Hc.out])
      refine (HCo.out w3 Hb3.out).mono ?_
      rintro e w4 ⟨r, rfl, g1, g2⟩
      have HZ := Lib.hid (HR.out w4 (Hb3.out.trans (g2.mono Hb3.out.size)))
      have G1 := Lib.hid g1
      clear g1 g2
      go_wp2_with (refine wpList_store_row rfl 27 (.tmp 4) (.tmp 43) rfl (w.heap.size + 1 + 1) #[.pointer r] rfl rfl 27 #[.pointer none] HZ.out.2.2.1 sizeTree rfl (one_ptr _) ?_)
      (try simp only [Exit.inBlock, Exit.then])
      refine bodyPost_ret (results_row_tmp' rfl _ _ (w.heap.size + 1 + 1) 27 #[.pointer r] (0, 0) _ rfl (setRow_heap _ _ _ _ _ _ HZ.out.2.2.1) Try.underlying27 rfl sizeTree) rfl ?_
      refine ⟨r, by rw [HJ.out]; rfl, ?_, setRow_below HZ.out.2.2.2.2.2.1 (by omega) _⟩
      rw [HJ.out]
      exact G1.out.setRow HZ.out.2.2.1 _
  · have HJ := Lib.hid hJ
    have HZ := Lib.hid (HR.out w3 Hb3.out)
    clear hJ
    rcases hc with hc | hc
    all_goals
      have Hc := Lib.hid hc
      clear hc
      go_wp2_with (first
        | (go_at_call 51; refine (compS_any a1 a2 w3).mono ?_; rintro e w' ⟨rfl, hw⟩; obtain rfl := hw.symm; clear hw; rw [Hc.out])
        | (refine wpList_store_row rfl 27 (.tmp 4) (.tmp 37) rfl (w.heap.size + 1 + 1) #[.pointer none] rfl rfl 27 #[.pointer none] Hrow.out sizeTree rfl (one_ptr _) ?_))
      (try simp only [Exit.inBlock, Exit.then])
      refine bodyPost_ret (results_row_tmp' rfl _ _ (w.heap.size + 1 + 1) 27 #[.pointer none] (0, 0) _ rfl (setRow_heap _ _ _ _ _ _ Hrow.out) Try.underlying27 rfl sizeTree) rfl ?_
      exact ⟨none, by rw [HJ.out]; rfl, by rw [HJ.out]; rfl, setRow_below HZ.out.2.2.2.2.2.1 (by omega) _⟩
end Go.Proofs.Ytdffgkhlkbaecaa.Tok
