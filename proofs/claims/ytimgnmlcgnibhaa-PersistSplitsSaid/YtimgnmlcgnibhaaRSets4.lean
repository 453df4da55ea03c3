/- The reference's sets: Union, where nothing is united. -/
import Derived.Test.YtimgnmlcgnibhaaRSets3
namespace Go.Proofs.Ytimgnmlcgnibhaa.Tok
open Go.RowKit Go.Proofs.Ytimgnmlcgnibhaa

theorem results_row_tmp2 {P : Program} {fn : Func} {p u v : Tmp} {ty : TypeId} (h : fn.results = #[.cell p ty, .tmp u, .tmp v]) (tmps : Array Value) (w : World) (g : Nat) (t : TypeId) (cs : Array Value) (fr : Nat × Nat) (d : TypeDesc)
    (hp : tmps.getD p undef = .pointer (some ⟨g, 0, none⟩)) (hg : w.heap[g]? = some (.cells cs t fr))
    (hu : P.underlying ty = some d) (hd : (match d with | .struct _ | .array _ _ => true | _ => false) = true) (hi : (P.info? ty).map (·.size) = some cs.size) :
    (results fn tmps).run P w = .ok (.tuple #[.agg cs, tmps.getD u undef, tmps.getD v undef]) w := by
  have hp' : tmps[p]?.getD undef = .pointer (some ⟨g, 0, none⟩) := by simpa using hp
  simp [results, h, hp', asAddr, run_loadVar_row w g t ty cs fr d hg hu hd hi, Result.andThen]
/-- What Find leaves: the two rows ahead of it. -/
theorem rows_kept {w w1 : World} {a b : Obj} (h : Below ((w.alloc a).alloc b).heap.size ((w.alloc a).alloc b) w1) : w1.heap[w.heap.size]? = some a ∧ w1.heap[w.heap.size + 1]? = some b ∧ Below w.heap.size w w1 ∧ w.heap.size + 2 ≤ w1.heap.size := by
  have hb := h.size
  simp at hb
  refine ⟨(h.block _ (by simp <;> omega)).trans ?_, (h.block _ (by simp <;> omega)).trans (ptr_alloc_2 w a b), (((Below.refl _ _).alloc (Nat.le_refl _) _).alloc (by simp) _).trans (h.mono (by simp <;> omega)), by omega⟩
  rw [heap_alloc_old _ _ (by simp)]
  exact heap_alloc_new _ _
set_option maxHeartbeats 3200000 in
set_option maxRecDepth 8000 in
theorem runion_out (A1 A2 : Option Addr) (n c1 p c2 : Nat) (a b : Int) (cur : List Nat) (w : World) (h : RdT w 3 A1 n (nats cur)) (hn : n ≤ 10000) (hr : inR a n = false ∨ inR b n = false) :
    Calls Try.prog 46 #[.agg #[.slice A1 n c1, .slice A2 p c2], .int .i64 a, .int .i64 b] w fun e w' => e = .returned (.tuple #[.agg #[.slice A1 n c1, .slice A2 p c2], .bool false, .int .i64 3]) ∧ Below w.heap.size w w' := by
  have hlen : cur.length = n := by have := h.1; rwa [nats_len] at this
  have Hrd := Lib.hid h
  clear h
  cases ha : inR a n
  · have HF := Lib.hid (fun W => rfind_out A1 A2 n c1 p c2 a W ha)
    clear hr ha
    go_enter Try.func46, Try.ntmps46
    go_wp2_with fail
    refine (HF.out _).mono ?_
    rintro e w1 ⟨rfl, hb1⟩
    obtain ⟨r0, r1, hb, hz⟩ := rows_kept hb1
    have HBs := Lib.hid (setRow_below hb (g := w.heap.size + 1) (by omega) #[.slice A1 n c1, .slice A2 p c2])
    clear hb1 hb
    go_wp2_with (first
      | (refine wpList_load_row rfl 84 (.tmp 3) rfl w.heap.size rfl 84 #[.slice A1 n c1, .slice A2 p c2] (0, 0) _ r0 Try.underlying84 rfl sizeRS ?_)
      | (refine wpList_store_row rfl 84 (.tmp 6) (.tmp 23) rfl (w.heap.size + 1) #[.slice A1 n c1, .slice A2 p c2] rfl rfl 84 #[.slice none 0 0, .slice none 0 0] r1 sizeRS rfl (one_rs _ _ _ _ _ _) ?_))
    (try simp only [Exit.inBlock, Exit.then])
    refine bodyPost_ret (results_row_tmp2 rfl _ _ (w.heap.size + 1) 84 #[.slice A1 n c1, .slice A2 p c2] (0, 0) _ rfl (setRow_heap _ _ _ _ _ _ r1) Try.underlying84 rfl sizeRS) rfl ?_
    exact ⟨rfl, HBs.out⟩
  · have hb0 : inR b n = false := by rcases hr with h1 | h1; rw [ha] at h1; cases h1; exact h1
    obtain ⟨ha1, ha2⟩ := of_decide_eq_true ha
    obtain ⟨a', rfl⟩ : ∃ a' : Nat, a = (a' : Int) := ⟨a.toNat, by omega⟩
    obtain ⟨x, hx⟩ : ∃ x, cur[a']? = some x := ⟨_, List.getElem?_eq_getElem (by omega)⟩
    have HF : Hid (∀ W, Below w.heap.size w W → Calls Try.prog 47 #[.agg #[.slice A1 n c1, .slice A2 p c2], .int .i64 (a' : Nat)] W fun e w' => e = .returned (.tuple #[.int .i64 (x : Nat), .int .i64 0]) ∧ Below W.heap.size W w') := fun W hW => rfind_in A1 A2 n c1 p c2 a' x cur W (Hrd.out.below hW) hn hx
    have HG := Lib.hid (fun W => rfind_out A1 A2 n c1 p c2 b W hb0)
    clear hr ha hb0 ha1 ha2 hx
    go_enter Try.func46, Try.ntmps46
    go_wp2_with fail
    refine (HF.out _ (((Below.refl _ _).alloc (Nat.le_refl _) _).alloc (by simp) _)).mono ?_
    rintro e w1 ⟨rfl, hb1⟩
    obtain ⟨r0, r1, hb, hz⟩ := rows_kept hb1
    have Hb := Lib.hid hb
    have R1 := Lib.hid r1
    have R0 := Lib.hid r0
    clear hb1 hb r1
    go_wp2_with (refine wpList_load_row rfl 84 (.tmp 3) rfl w.heap.size rfl 84 #[.slice A1 n c1, .slice A2 p c2] (0, 0) _ r0 Try.underlying84 rfl sizeRS ?_)
    refine (HG.out _).mono ?_
    rintro e w2 ⟨rfl, hb2⟩
    have q0 := (hb2.block w.heap.size (by omega)).trans R0.out
    have q1 := (hb2.block (w.heap.size + 1) (by omega)).trans R1.out
    have HBs := Lib.hid (setRow_below (Hb.out.trans (hb2.mono (by omega))) (g := w.heap.size + 1) (by omega) #[.slice A1 n c1, .slice A2 p c2])
    clear hb2 r0
    go_wp2_with (first
      | (refine wpList_load_row rfl 84 (.tmp 3) rfl w.heap.size rfl 84 #[.slice A1 n c1, .slice A2 p c2] (0, 0) _ q0 Try.underlying84 rfl sizeRS ?_)
      | (refine wpList_store_row rfl 84 (.tmp 6) (.tmp 33) rfl (w.heap.size + 1) #[.slice A1 n c1, .slice A2 p c2] rfl rfl 84 #[.slice none 0 0, .slice none 0 0] q1 sizeRS rfl (one_rs _ _ _ _ _ _) ?_))
    (try simp only [Exit.inBlock, Exit.then])
    refine bodyPost_ret (results_row_tmp2 rfl _ _ (w.heap.size + 1) 84 #[.slice A1 n c1, .slice A2 p c2] (0, 0) _ rfl (setRow_heap _ _ _ _ _ _ q1) Try.underlying84 rfl sizeRS) rfl ?_
    exact ⟨rfl, HBs.out⟩
set_option maxHeartbeats 3200000 in
set_option maxRecDepth 8000 in
theorem runion_same (A1 A2 : Option Addr) (n c1 p c2 a b x : Nat) (cur : List Nat) (w : World) (h : RdT w 3 A1 n (nats cur)) (hn : n ≤ 10000) (ha : cur[a]? = some x) (hb : cur[b]? = some x) :
    Calls Try.prog 46 #[.agg #[.slice A1 n c1, .slice A2 p c2], .int .i64 a, .int .i64 b] w fun e w' => e = .returned (.tuple #[.agg #[.slice A1 n c1, .slice A2 p c2], .bool false, .int .i64 0]) ∧ Below w.heap.size w w' := by
  have HF : Hid (∀ W, Below w.heap.size w W → Calls Try.prog 47 #[.agg #[.slice A1 n c1, .slice A2 p c2], .int .i64 (a : Nat)] W fun e w' => e = .returned (.tuple #[.int .i64 (x : Nat), .int .i64 0]) ∧ Below W.heap.size W w') := fun W hW => rfind_in A1 A2 n c1 p c2 a x cur W (h.below hW) hn ha
  have HG : Hid (∀ W, Below w.heap.size w W → Calls Try.prog 47 #[.agg #[.slice A1 n c1, .slice A2 p c2], .int .i64 (b : Nat)] W fun e w' => e = .returned (.tuple #[.int .i64 (x : Nat), .int .i64 0]) ∧ Below W.heap.size W w') := fun W hW => rfind_in A1 A2 n c1 p c2 b x cur W (h.below hW) hn hb
  have g1 : ((x : Int) == (x : Int)) = true := by rw [beq_iff_eq]
  have g2 : (x == x) = true := by rw [beq_iff_eq]
  clear h ha hb
  go_enter Try.func46, Try.ntmps46
  go_wp2_with fail
  refine (HF.out _ (((Below.refl _ _).alloc (Nat.le_refl _) _).alloc (by simp) _)).mono ?_
  rintro e w1 ⟨rfl, hb1⟩
  obtain ⟨r0, r1, hb, hz⟩ := rows_kept hb1
  have Hb := Lib.hid hb
  have R1 := Lib.hid r1
  have R0 := Lib.hid r0
  clear hb1 hb r1
  go_wp2_with (refine wpList_load_row rfl 84 (.tmp 3) rfl w.heap.size rfl 84 #[.slice A1 n c1, .slice A2 p c2] (0, 0) _ r0 Try.underlying84 rfl sizeRS ?_)
  refine (HG.out _ Hb.out).mono ?_
  rintro e w2 ⟨rfl, hb2⟩
  have q0 := (hb2.block w.heap.size (by omega)).trans R0.out
  have q1 := (hb2.block (w.heap.size + 1) (by omega)).trans R1.out
  have HBs := Lib.hid (setRow_below (Hb.out.trans (hb2.mono (by omega))) (g := w.heap.size + 1) (by omega) #[.slice A1 n c1, .slice A2 p c2])
  clear hb2 r0
  go_wp2_with (first
    | (refine wpList_load_row rfl 84 (.tmp 3) rfl w.heap.size rfl 84 #[.slice A1 n c1, .slice A2 p c2] (0, 0) _ q0 Try.underlying84 rfl sizeRS ?_)
    | (refine wpList_store_row rfl 84 (.tmp 6) (.tmp 38) rfl (w.heap.size + 1) #[.slice A1 n c1, .slice A2 p c2] rfl rfl 84 #[.slice none 0 0, .slice none 0 0] q1 sizeRS rfl (one_rs _ _ _ _ _ _) ?_))
  (try simp only [Exit.inBlock, Exit.then])
  refine bodyPost_ret (results_row_tmp2 rfl _ _ (w.heap.size + 1) 84 #[.slice A1 n c1, .slice A2 p c2] (0, 0) _ rfl (setRow_heap _ _ _ _ _ _ q1) Try.underlying84 rfl sizeRS) rfl ?_
  exact ⟨rfl, HBs.out⟩
end Go.Proofs.Ytimgnmlcgnibhaa.Tok
