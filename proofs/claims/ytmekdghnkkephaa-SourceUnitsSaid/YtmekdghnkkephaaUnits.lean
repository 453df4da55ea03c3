/- Contracts of Texts and Locate of a unit, both. -/
import Derived.Test.YtmekdghnkkephaaAwake2
import Derived.StillTailTactics
import Derived.BigRegion
namespace Go.Proofs.Ytmekdghnkkephaa.Tok
open Go.RowKit Go.Proofs.Ytmekdghnkkephaa

/-- A word of a unit: text, file, offset; its three cells. -/
def wordI (t : ByteArray × Int × Int) : List Value := [.string t.1, .int .i64 t.2.1, .int .i64 t.2.2]
theorem flat3 {α : Type} (f : α → List Value) (hf : ∀ x, (f x).length = 3) : ∀ (l : List α) (k i : Nat) (h : k < l.length), i < 3 → (l.flatMap f)[k * 3 + i]? = (f l[k])[i]?
  | [], _, _, h, _ => by simp at h
  | x :: l, 0, i, _, hi => by
    rw [List.flatMap_cons, List.getElem?_append_left (by rw [hf]; omega)]
    simp
  | x :: l, k + 1, i, h, hi => by
    have hx := hf x
    rw [List.flatMap_cons, List.getElem?_append_right (by omega), hx, show (k + 1) * 3 + i - 3 = k * 3 + i by omega, flat3 f hf l k i (by simpa using h) hi]
    simp
theorem flat3_len {α : Type} (f : α → List Value) (hf : ∀ x, (f x).length = 3) (l : List α) : (l.flatMap f).length = l.length * 3 := by
  induction l with
  | nil => rfl
  | cons x l ih => rw [List.flatMap_cons, List.length_append, hf, ih, List.length_cons]; omega

def noLoc : Value := .tuple #[.agg #[.string ⟨#[]⟩, .int .i64 0], .int .i64 3]
def locT (fs : List ByteArray) (t : ByteArray × Int × Int) : Value :=
  if 0 ≤ t.2.1 ∧ t.2.1.toNat < fs.length then .tuple #[.agg #[.string (fs.getD t.2.1.toNat ByteArray.empty), .int .i64 t.2.2], .int .i64 0] else noLoc
def locV (fs : List ByteArray) (ws : List (ByteArray × Int × Int)) (i : Int) : Value :=
  if 0 ≤ i ∧ i.toNat < ws.length then locT fs (ws.getD i.toNat (ByteArray.empty, 0, 0)) else noLoc

theorem results_row_tmp {P : Program} {fn : Func} {p u : Tmp} {ty : TypeId} (h : fn.results = #[.cell p ty, .tmp u]) (tmps : Array Value) (w : World) (g : Nat) (t : TypeId) (cs : Array Value) (fr : Nat × Nat) (d : TypeDesc)
    (hp : tmps.getD p undef = .pointer (some ⟨g, 0, none⟩)) (hg : w.heap[g]? = some (.cells cs t fr))
    (hu : P.underlying ty = some d) (hd : (match d with | .struct _ | .array _ _ => true | _ => false) = true) (hi : (P.info? ty).map (·.size) = some cs.size) :
    (results fn tmps).run P w = .ok (.tuple #[.agg cs, tmps.getD u undef]) w := by
  have hp' : tmps[p]?.getD undef = .pointer (some ⟨g, 0, none⟩) := by simpa using hp
  simp [results, h, hp', asAddr, run_loadVar_row w g t ty cs fr d hg hu hd hi, Result.andThen]
theorem heap_alloc_2 (w : World) (a b : Obj) : ((w.alloc a).alloc b).heap[w.heap.size + 1]? = some b := by
  have := heap_alloc_new (w.alloc a) b
  rwa [show (w.alloc a).heap.size = w.heap.size + 1 by simp] at this
theorem heap_alloc_23 (w : World) (a b c : Obj) : (((w.alloc a).alloc b).alloc c).heap[w.heap.size + 1]? = some b := by
  rw [heap_alloc_old _ _ (by simp)]
  exact heap_alloc_2 w a b
theorem loc_world {w wq : World} {b' p : Nat} {fm t : ByteArray} {x y z : Value} {m at_ : Int} {T1 T2 T3 : TypeId} (hb : b' < w.heap.size) (hd : w.cell? ⟨b', p, none⟩ = some (.string fm))
    (h : (((w.alloc (.cells #[x, y, z] T1)).alloc (.cells #[.string ⟨#[]⟩, .int .i64 0] T2)).alloc (.cells #[.string t, .int .i64 m, .int .i64 at_] T3)) = wq) :
    wq.cell? ⟨w.heap.size, 0, none⟩ = some x ∧ wq.cell? ⟨w.heap.size + 1 + 1, 1, none⟩ = some (.int .i64 m) ∧ wq.cell? ⟨w.heap.size + 1 + 1, 2, none⟩ = some (.int .i64 at_) ∧ wq.cell? ⟨b', p, none⟩ = some (.string fm) ∧
    wq.heap[w.heap.size + 1]? = some (.cells #[.string ⟨#[]⟩, .int .i64 0] T2 (0, 0)) ∧ Below w.heap.size w wq := by
  subst h
  have hB : Below w.heap.size w (((w.alloc (.cells #[x, y, z] T1)).alloc (.cells #[.string ⟨#[]⟩, .int .i64 0] T2)).alloc (.cells #[.string t, .int .i64 m, .int .i64 at_] T3)) :=
    (((Below.refl _ _).alloc (Nat.le_refl _) _).alloc (by simp) _).alloc (by simp; omega) _
  have h3 : (((w.alloc (.cells #[x, y, z] T1)).alloc (.cells #[.string ⟨#[]⟩, .int .i64 0] T2)).alloc (.cells #[.string t, .int .i64 m, .int .i64 at_] T3)).heap[w.heap.size + 1 + 1]? = some (.cells #[.string t, .int .i64 m, .int .i64 at_] T3 (0, 0)) := by
    have := heap_alloc_new ((w.alloc (.cells #[x, y, z] T1)).alloc (.cells #[.string ⟨#[]⟩, .int .i64 0] T2)) (.cells #[.string t, .int .i64 m, .int .i64 at_] T3)
    rwa [show ((w.alloc (.cells #[x, y, z] T1)).alloc (.cells #[.string ⟨#[]⟩, .int .i64 0] T2)).heap.size = w.heap.size + 1 + 1 by simp] at this
  have h1 : (((w.alloc (.cells #[x, y, z] T1)).alloc (.cells #[.string ⟨#[]⟩, .int .i64 0] T2)).alloc (.cells #[.string t, .int .i64 m, .int .i64 at_] T3)).heap[w.heap.size]? = some (.cells #[x, y, z] T1 (0, 0)) := by
    rw [heap_alloc_old _ _ (by simp; omega), heap_alloc_old _ _ (by simp)]
    exact heap_alloc_new _ _
  refine ⟨?_, ?_, ?_, (hB.cell (p := ⟨b', p, none⟩) hb).trans hd, heap_alloc_23 _ _ _ _, hB⟩
  · rw [cell_of_row _ _ _ _ _ _ h1]; rfl
  · rw [cell_of_row _ _ _ _ _ _ h3]; rfl
  · rw [cell_of_row _ _ _ _ _ _ h3]; rfl
theorem one_fault (a : ByteArray) (b : Int) : (#[Value.string a, Value.int .i64 b].all (·.oneCell')) = true := by
  rw [Array.all_eq_true_iff_forall_mem]
  intro u hu
  exact one_pair a b u (by simpa using hu)
theorem sizeF : (Try.prog.info? 48).map (·.size) = some 2 := by kernel_rfl
theorem sizeG : (Try.prog.info? 54).map (·.size) = some 2 := by kernel_rfl

set_option maxHeartbeats 1600000 in
set_option maxRecDepth 8000 in
theorem locate_any (F A C : Option Addr) (nf n nc cf c cc : Nat) (fs : List ByteArray) (ws : List (ByteArray × Int × Int)) (i : Int) (w : World) (hf : nf ≤ 140737488355328) (hn : n ≤ 140737488355328)
    (hF : Rd w w.heap.size 1 F nf (fs.map Value.string)) (hW : Rd w w.heap.size 3 A n (ws.flatMap wordI)) :
    Calls Try.prog 20 #[.agg #[.slice F nf cf, .slice A n c, .slice C nc cc], .int .i64 i] w fun e w' => e = .returned (locV fs ws i) ∧ Below w.heap.size w w' := by
  have hlf : fs.length = nf := by have := hF.len; simp at this; omega
  have hlw : ws.length = n := by have := hW.len; rw [flat3_len wordI (fun _ => rfl)] at this; omega
  by_cases h : 0 ≤ i ∧ i.toNat < ws.length
  · obtain ⟨k, rfl⟩ : ∃ k : Nat, i = (k : Int) := ⟨i.toNat, by omega⟩
    have hk : k < ws.length := by omega
    obtain ⟨b, off, rfl, hb, hc⟩ := hW.pos (by omega)
    have hc0 := hc (k * 3) _ ((flat3 wordI (fun _ => rfl) ws k 0 hk (by omega)).trans rfl)
    have hc1 := hc (k * 3 + 1) _ ((flat3 wordI (fun _ => rfl) ws k 1 hk (by omega)).trans rfl)
    have hc2 := hc (k * 3 + 2) _ ((flat3 wordI (fun _ => rfl) ws k 2 hk (by omega)).trans rfl)
    obtain ⟨t, f, at_, ht⟩ : ∃ t f at_, ws[k] = (t, f, at_) := ⟨_, _, _, rfl⟩
    have Hv := Lib.hid (show locV fs ws (k : Int) = locT fs (t, f, at_) by
      unfold locV
      rw [if_pos ⟨by omega, by simpa using hk⟩, ← ht]
      simp [hk])
    clear hc hW h
    rw [ht] at hc0 hc1 hc2
    simp only at hc0 hc1 hc2
    rw [← Nat.add_assoc] at hc1 hc2
    have hkn' : k < n := by omega
    have hk0 : decide ((k : Int) < 0) = false := by rw [decide_eq_false_iff_not]; omega
    have hkn : decide (n ≤ k) = false := by rw [decide_eq_false_iff_not]; omega
    clear ht hk
    by_cases h2 : 0 ≤ f ∧ f.toNat < fs.length
    · obtain ⟨m, rfl⟩ : ∃ m : Nat, f = (m : Int) := ⟨f.toNat, by omega⟩
      have hm : m < fs.length := by omega
      obtain ⟨b', off', rfl, hb', hc'⟩ := hF.pos (by omega)
      have hd := hc' m (.string fs[m]) (by simp [hm])
      have HV := Lib.hid (show locT fs (t, (m : Int), at_) = .tuple #[.agg #[.string fs[m], .int .i64 at_], .int .i64 0] by
        unfold locT
        rw [if_pos ⟨by simp, by simpa using hm⟩]
        simp [hm])
      obtain ⟨fm, hfm⟩ : ∃ fm, fm = fs[m] := ⟨_, rfl⟩
      rw [← hfm] at hd HV
      have hmn' : m < nf := by omega
      have hm0 : decide ((m : Int) < 0) = false := by rw [decide_eq_false_iff_not]; omega
      have hmn : decide (nf ≤ m) = false := by rw [decide_eq_false_iff_not]; omega
      clear hc' hF h2 hm hfm
      go_enter Try.func20, Try.ntmps20
      go_wp2
      generalize hwq : World.alloc (World.alloc (World.alloc _ _) _) _ = wq
      obtain ⟨q0, q1, q2, q3, q4, hbq⟩ := loc_world hb' hd hwq
      clear hwq
      go_still_tail 11, (by kernel_rfl)
      refine wpList_store_row rfl 48 (.tmp 4) (.tmp 46) rfl (w.heap.size + 1) #[.string fm, .int .i64 at_] rfl rfl 48 #[.string ⟨#[]⟩, .int .i64 0] q4 sizeF rfl (one_fault _ _) ?_
      go_wp2
      (try simp only [Exit.inBlock, Exit.then])
      refine bodyPost_ret (results_row_tmp rfl _ _ (w.heap.size + 1) 48 #[.string fm, .int .i64 at_] (0, 0) _ rfl (setRow_heap _ _ _ _ _ _ q4) Try.underlying48 rfl sizeF) rfl ?_
      exact ⟨by rw [Hv.out, HV.out]; rfl, hbq.trans ⟨rfl, rfl, rfl, by simp, fun i hi => setRow_other _ _ _ _ (by omega)⟩⟩
    · have HV := Lib.hid (show locT fs (t, f, at_) = noLoc by unfold locT; rw [if_neg h2])
      have h3 : f < 0 ∨ (nf : Int) ≤ f := by omega
      clear h2 hF
      rcases h3 with h3 | h3
      all_goals
        go_enter Try.func20, Try.ntmps20
        go_wp2
        (try simp only [Exit.inBlock, Exit.then])
        refine bodyPost_ret (results_row_tmp rfl _ _ (w.heap.size + 1) 48 #[.string ⟨#[]⟩, .int .i64 0] (0, 0) _ rfl (heap_alloc_23 _ _ _ _) Try.underlying48 rfl sizeF) rfl ?_
        exact ⟨by rw [Hv.out, HV.out]; rfl, (((Below.refl _ _).alloc (Nat.le_refl _) _).alloc (by simp) _).alloc (by simp; omega) _⟩
  · have Hv := Lib.hid (show locV fs ws i = noLoc by unfold locV; rw [if_neg h])
    clear hF hW
    by_cases h0 : i < 0
    · go_enter Try.func20, Try.ntmps20
      go_wp2
      (try simp only [Exit.inBlock, Exit.then])
      refine bodyPost_ret (results_row_tmp rfl _ _ (w.heap.size + 1) 48 #[.string ⟨#[]⟩, .int .i64 0] (0, 0) _ rfl (heap_alloc_2 _ _ _) Try.underlying48 rfl sizeF) rfl ?_
      exact ⟨by rw [Hv.out]; rfl, ((Below.refl _ _).alloc (Nat.le_refl _) _).alloc (by simp) _⟩
    · have h1 : (n : Int) ≤ i := by omega
      go_enter Try.func20, Try.ntmps20
      go_wp2
      (try simp only [Exit.inBlock, Exit.then])
      refine bodyPost_ret (results_row_tmp rfl _ _ (w.heap.size + 1) 48 #[.string ⟨#[]⟩, .int .i64 0] (0, 0) _ rfl (heap_alloc_2 _ _ _) Try.underlying48 rfl sizeF) rfl ?_
      exact ⟨by rw [Hv.out]; rfl, ((Below.refl _ _).alloc (Nat.le_refl _) _).alloc (by simp) _⟩
end Go.Proofs.Ytmekdghnkkephaa.Tok
