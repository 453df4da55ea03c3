/- The sets beside the reference's: each of the three calls, in both. -/
import Derived.Test.YtimgnmlcgnibhaaRSets5
import Derived.Test.YtimgnmlcgnibhaaUndo2
namespace Go.Proofs.Ytimgnmlcgnibhaa.Tok
open Go.RowKit Go.Proofs.Ytimgnmlcgnibhaa

theorem leas_ones (n : Nat) : leas (ones n) n = List.range n := by
  unfold leas
  rw [List.map_congr_left (g := id)]
  · simp
  · intro a ha
    have ha' : a < n := by simpa using ha
    have hl := ones_len n
    show lea (ones n) a = a
    unfold lea
    rw [root_self (by omega) (by rw [ones_get])]
    simp [leastOf, ha', hl, ones_get]
theorem leas_uniP {n : Nat} {E : List El} {U : List (Nat × Nat)} (hn : n ≤ 10000) (h : Past n E U) {a b : Nat} (ha : a < n) (hb : b < n) :
    (leas E n).map (fun z => if z = lea E a ∨ z = lea E b then min (lea E a) (lea E b) else z) = leas (uniP E a b) n := by
  unfold leas
  rw [List.map_map]
  apply List.map_congr_left
  intro c hc
  have hc' : c < n := by simpa using hc
  show (if lea E c = lea E a ∨ lea E c = lea E b then min (lea E a) (lea E b) else lea E c) = lea (uniP E a b) c
  rw [lea_uniP hn h ha hb hc']
theorem own_setRow_other {w : World} {base : Nat} {e : TypeId} {z n : Nat} {v : Value} {xs : List Value} (h : w.ownsRow base e z v n xs) {g : Nat} (ha : some g ≠ v.ownBlock) (cs : Array Value) : (w.setRow g cs).ownsRow base e z v n xs := by
  refine ⟨h.1, ?_⟩
  rcases h.2 with h1 | ⟨k, cap, cur, rfl, hb, hh, hr⟩
  · exact .inl h1
  · exact .inr ⟨k, cap, cur, rfl, hb, (setRow_other _ _ _ _ (fun e => ha (by rw [e]; rfl))).trans hh, hr⟩
/-- Both sets in memory: ours, the reference's, and the variable that holds the reference's. -/
structure SMid (w : World) (n g B : Nat) (Q : List (Nat × Array Value × TypeId)) (E : List El) (U : List (Nat × Nat)) (cs : Array Value) (A1 A2 : Option Addr) (p c2 : Nat) (cur : List Nat) (hs : List (List Nat)) (W : World) : Prop where
  sets : IsSets w.heap.size W g E U
  rs : RS W A1 n A2 p c2 cur hs
  row : W.heap[B]? = some (.cells cs 84 (0, 0))
  below : Below w.heap.size w W
  kt : ∀ x ∈ Q, KT x.2.2 = true
  qrow : ∀ x ∈ Q, W.heap[x.1]? = some (.cells x.2.1 x.2.2 (0, 0))
section
variable {w W W1 : World} {n g B : Nat} {Q : List (Nat × Array Value × TypeId)} {E E1 : List El} {U U1 : List (Nat × Nat)} {cs : Array Value} {A1 A2 : Option Addr} {p c2 : Nat} {cur : List Nat} {hs : List (List Nat)}
theorem SMid.same (h : SMid w n g B Q E U cs A1 A2 p c2 cur hs W) (hb : Below W.heap.size W W1) : SMid w n g B Q E U cs A1 A2 p c2 cur hs W1 :=
  ⟨h.sets.below hb, h.rs.below hb, (hb.block B (Array.getElem?_eq_some_iff.1 h.row).1).trans h.row, h.below.trans (hb.mono h.below.size), h.kt, fun x hx => (hb.block _ (Array.getElem?_eq_some_iff.1 (h.qrow x hx)).1).trans (h.qrow x hx)⟩
theorem SMid.drewN (h : SMid w n g B Q E U cs A1 A2 p c2 cur hs W) (q : Nat) : SMid w n g B Q E U cs A1 A2 p c2 cur hs (W.drewN q) := h.same (below_drewN (Below.refl _ _) q)
theorem SMid.bk (h : SMid w n g B Q E U cs A1 A2 p c2 cur hs W) (hs1 : IsSets w.heap.size W1 g E1 U1) (hb : BK w.heap.size W W1) : SMid w n g B Q E1 U1 cs A1 A2 p c2 cur hs W1 :=
  ⟨hs1, h.rs.bk hb, hb.keeps B _ _ _ h.row (by decide), h.below.trans hb.below, h.kt, fun x hx => hb.keeps _ _ _ _ (h.qrow x hx) (h.kt x hx)⟩
theorem SMid.ref {A1' A2' : Option Addr} {p' c2' : Nat} {cur' : List Nat} {hs' : List (List Nat)} (h : SMid w n g B Q E U cs A1 A2 p c2 cur hs W) (hr : RS W1 A1' n A2' p' c2' cur' hs') (hb : Below W.heap.size W W1) : SMid w n g B Q E U cs A1' A2' p' c2' cur' hs' W1 :=
  ⟨(h.same hb).sets, hr, (h.same hb).row, (h.same hb).below, h.kt, (h.same hb).qrow⟩
theorem IsSets.setRow {base : Nat} (h : IsSets base W g E U) (hrow : W.heap[B]? = some (.cells cs 84 (0, 0))) (cs' : Array Value) : IsSets base (W.setRow B cs') g E U := by
  obtain ⟨eb, A, c, h1, h2, h3, ⟨ce, k1, k2⟩, h5⟩ := h
  have ne : ∀ {i : Nat} {cs0 : Array Value} {T : TypeId} {fr : Nat × Nat}, W.heap[i]? = some (.cells cs0 T fr) → T ≠ 84 → i ≠ B := by
    intro i cs0 T fr hi hT
    rintro rfl
    rw [hrow] at hi
    injection hi with hi
    injection hi with _ hi
    exact hT hi.symm
  exact ⟨eb, A, c, h1, h2, (setRow_other _ _ _ _ (ne h3 (by decide))).trans h3, ⟨ce, (setRow_other _ _ _ _ (ne k1 (by decide))).trans k1, k2⟩, own_setRow_other h5 (own_apartS h5 hrow (by decide)) _⟩
theorem SMid.put (h : SMid w n g B Q E U cs A1 A2 p c2 cur hs W) (hB : w.heap.size ≤ B) (cs' : Array Value) : SMid w n g B [] E U cs' A1 A2 p c2 cur hs (W.setRow B cs') := by
  refine ⟨h.sets.setRow h.row cs', ⟨RdT.setRow_keep h.rs.cur h.row (by decide) _, ?_, h.rs.cap⟩, setRow_heap _ _ _ _ _ _ h.row, setRow_below h.below hB _, fun x hx => by simp at hx, fun x hx => by simp at hx⟩
  obtain ⟨vs, h1, h2, h3⟩ := h.rs.past
  exact ⟨vs, RdT.setRow_keep h1 h.row (by decide) _, h2, fun i v l a b => by obtain ⟨A, c, e, k⟩ := h3 i v l a b; exact ⟨A, c, e, RdT.setRow_keep k h.row (by decide) _⟩⟩
theorem SMid.push (h : SMid w n g B Q E U cs A1 A2 p c2 cur hs W) {i : Nat} {qs : Array Value} {T : TypeId} (hr : W.heap[i]? = some (.cells qs T (0, 0))) (hT : KT T = true) : SMid w n g B ((i, qs, T) :: Q) E U cs A1 A2 p c2 cur hs W :=
  ⟨h.sets, h.rs, h.row, h.below, fun x hx => by rcases List.mem_cons.1 hx with rfl | hx; exact hT; exact h.kt x hx, fun x hx => by rcases List.mem_cons.1 hx with rfl | hx; exact hr; exact h.qrow x hx⟩
theorem SMid.nil (h : SMid w n g B Q E U cs A1 A2 p c2 cur hs W) : SMid w n g B [] E U cs A1 A2 p c2 cur hs W :=
  ⟨h.sets, h.rs, h.row, h.below, fun x hx => by simp at hx, fun x hx => by simp at hx⟩
theorem SMid.tail {x : Nat × Array Value × TypeId} (h : SMid w n g B (x :: Q) E U cs A1 A2 p c2 cur hs W) : SMid w n g B Q E U cs A1 A2 p c2 cur hs W :=
  ⟨h.sets, h.rs, h.row, h.below, fun y hy => h.kt y (List.mem_cons_of_mem _ hy), fun y hy => h.qrow y (List.mem_cons_of_mem _ hy)⟩
theorem inR_nat {a : Int} {n : Nat} (h : inR a n = true) : ∃ k : Nat, a = (k : Int) ∧ k < n := by
  obtain ⟨h1, h2⟩ := of_decide_eq_true h
  exact ⟨a.toNat, by omega, by omega⟩
theorem union_both (c1 k : Nat) (a b : Int) (hn : n ≤ 60) (hk : k ≤ 80) (both : Both n E U hs) (hp : hs.length = p) (few : U.length ≤ k) :
    ∃ (bo : Bool) (er : Int) (E1 : List El) (U1 : List (Nat × Nat)),
      (∀ W, SMid w n g B Q E U cs A1 A2 p c2 (leas E n) hs W → Calls Try.prog 41 #[.pointer (some ⟨g, 0, none⟩), .int .i64 a, .int .i64 b] W fun e w' => e = .returned (.tuple #[.bool bo, .int .i64 er]) ∧ Hid (SMid w n g B Q E1 U1 cs A1 A2 p c2 (leas E n) hs w')) ∧
      (∀ W, SMid w n g B Q E1 U1 cs A1 A2 p c2 (leas E n) hs W → Calls Try.prog 46 #[.agg #[.slice A1 n c1, .slice A2 p c2], .int .i64 a, .int .i64 b] W fun e w' => ∃ (A1' A2' : Option Addr) (c1' p' c2' : Nat) (hs' : List (List Nat)), e = .returned (.tuple #[.agg #[.slice A1' n c1', .slice A2' p' c2'], .bool bo, .int .i64 er]) ∧
        Hid (SMid w n g B Q E1 U1 cs A1' A2' p' c2' (leas E1 n) hs' w') ∧ Hid (Both n E1 U1 hs') ∧ U1.length ≤ k + 1) := by
  have past := both.past (by omega)
  have hEl := past.len
  have ok := past.ok (by omega)
  have lw := past.low (by omega)
  have hUl := both.len
  by_cases hr : inR a n = false ∨ inR b n = false
  · refine ⟨false, 3, E, U, fun W h => ?_, fun W h => ?_⟩
    · exact (union_out a b g E U W h.sets (by omega) (by rw [hEl]; exact hr)).mono fun e w' ⟨h1, h2⟩ => ⟨h1, by rw [h2]; exact h⟩
    · exact (runion_out A1 A2 n c1 p c2 a b _ W h.rs.cur (by omega) hr).mono fun e w' ⟨h1, h2⟩ => ⟨_, _, _, _, _, _, h1, h.same h2, both, by omega⟩
  · have ha : inR a n = true := by cases h : inR a n <;> simp_all
    have hb : inR b n = true := by cases h : inR b n <;> simp_all
    obtain ⟨a', rfl, ha'⟩ := inR_nat ha
    obtain ⟨b', rfl, hb'⟩ := inR_nat hb
    by_cases he : root E a' = root E b'
    · refine ⟨false, 0, E, U, fun W h => ?_, fun W h => ?_⟩
      · exact (union_same a' b' g E U W h.sets (by omega) ok (by omega) (by omega) he).mono fun e w' ⟨h1, h2⟩ => ⟨h1, by rw [h2]; exact h⟩
      · have hl : lea E a' = lea E b' := by unfold lea; rw [he]
        exact (runion_same A1 A2 n c1 p c2 a' b' (lea E a') _ W h.rs.cur (by omega) (leas_get E n ha') (by rw [hl]; exact leas_get E n hb')).mono fun e w' ⟨h1, h2⟩ => ⟨_, _, _, _, _, _, h1, h.same h2, both, by omega⟩
    · have hne : lea E a' ≠ lea E b' := fun h => he ((lea_inj ok lw (by omega) (by omega)).1 h)
      have hb1 : (lea E a' != lea E b') = true := by rw [bne_iff_ne]; exact hne
      refine ⟨true, 0, uniP E a' b', uniU E U a' b', fun W h => ?_, fun W h => ?_⟩
      · have hU := union_any (base := w.heap.size) a' b' g n E U W h.sets (by omega) (by omega) past ha' hb'
        rw [hb1] at hU
        exact hU.mono fun e w' ⟨h1, h2, h3⟩ => ⟨h1, h.bk h2 h3⟩
      · refine (runion_join A1 A2 n c1 p c2 a' b' (lea E a') (lea E b') (leas E n) hs W h.rs hn (by omega) (leas_get E n ha') (leas_get E n hb') hne).mono ?_
        rintro e w' ⟨A1', A2', c1', c2', h1, h2, h3⟩
        rw [leas_uniP (by omega) past ha' hb'] at h2
        exact ⟨A1', A2', c1', p + 1, c2', hs ++ [leas E n], h1, h.ref h2.out h3, Both.link both ha' hb' he, by rw [uniU_len, if_neg he]; omega⟩
theorem find_both (c1 : Nat) (a : Int) (hn : n ≤ 60) (both : Both n E U hs) :
    ∃ (v er : Int),
      (∀ W, SMid w n g B Q E U cs A1 A2 p c2 (leas E n) hs W → Calls Try.prog 40 #[.pointer (some ⟨g, 0, none⟩), .int .i64 a] W fun e w' => e = .returned (.tuple #[.int .i64 v, .int .i64 er]) ∧ Hid (SMid w n g B Q E U cs A1 A2 p c2 (leas E n) hs w')) ∧
      (∀ W, SMid w n g B Q E U cs A1 A2 p c2 (leas E n) hs W → Calls Try.prog 47 #[.agg #[.slice A1 n c1, .slice A2 p c2], .int .i64 a] W fun e w' => e = .returned (.tuple #[.int .i64 v, .int .i64 er]) ∧ Hid (SMid w n g B Q E U cs A1 A2 p c2 (leas E n) hs w')) := by
  have past := both.past (by omega)
  have hEl := past.len
  cases ha : inR a n
  · refine ⟨0, 3, fun W h => ?_, fun W h => ?_⟩
    · refine (findSets_any a g E U W h.sets (by omega) (past.ok (by omega))).mono ?_
      rintro e w' ⟨h1, q, rfl⟩
      refine ⟨?_, h.drewN q⟩
      rw [h1]
      unfold findV
      rw [hEl, ha]
      rfl
    · exact (rfind_out A1 A2 n c1 p c2 a W ha).mono fun e w' ⟨h1, h2⟩ => ⟨h1, h.same h2⟩
  · obtain ⟨a', rfl, ha'⟩ := inR_nat ha
    refine ⟨(lea E a' : Nat), 0, fun W h => ?_, fun W h => ?_⟩
    · refine (find_any a' g n E U W h.sets (by omega) past ha').mono ?_
      rintro e w' ⟨h1, q, rfl⟩
      exact ⟨h1, h.drewN q⟩
    · exact (rfind_in A1 A2 n c1 p c2 a' (lea E a') _ W h.rs.cur (by omega) (leas_get E n ha')).mono fun e w' ⟨h1, h2⟩ => ⟨h1, h.same h2⟩
theorem undo_both (c1 k : Nat) (a : Int) (hn : n ≤ 60) (hk : k ≤ 80) (both : Both n E U hs) (hp : hs.length = p) (few : U.length ≤ k) :
    ∃ (er : Int) (E1 : List El) (U1 hs1 : _) (p1 : Nat), Both n E1 U1 hs1 ∧ U1.length ≤ k + 1 ∧
      (∀ W, SMid w n g B Q E U cs A1 A2 p c2 (leas E n) hs W → Calls Try.prog 48 #[.agg #[.slice A1 n c1, .slice A2 p c2], .int .i64 a] W fun e w' => ∃ (A1' A2' : Option Addr) (c1' c2' : Nat), e = .returned (.tuple #[.agg #[.slice A1' n c1', .slice A2' p1 c2'], .int .i64 er]) ∧
        Hid (SMid w n g B Q E U cs A1' A2' p1 c2' (leas E1 n) hs1 w')) ∧
      (∀ Q' A1' A2' c2' W, SMid w n g B Q' E U cs A1' A2' p1 c2' (leas E1 n) hs1 W → Calls Try.prog 42 #[.pointer (some ⟨g, 0, none⟩), .int .i64 a] W fun e w' => e = .returned (.int .i64 er) ∧ Hid (SMid w n g B Q' E1 U1 cs A1' A2' p1 c2' (leas E1 n) hs1 w')) := by
  have past := both.past (by omega)
  have hUl := both.len
  by_cases hr : a < 0 ∨ (p : Int) < a
  · refine ⟨3, E, U, hs, p, both, by omega, fun W h => ?_, fun Q' A1' A2' c2' W h => ?_⟩
    · exact (rundone_same A1 A2 n c1 p c2 a 3 W (by omega) (.inr ⟨hr, rfl⟩)).mono fun e w' ⟨h1, h2⟩ => ⟨_, _, _, _, h1, h.same h2⟩
    · exact (undoSets_out g a E U W h.sets (by omega) (by omega)).mono fun e w' ⟨h1, h2⟩ => ⟨h1, by rw [h2]; exact h⟩
  · obtain ⟨a', rfl⟩ : ∃ a' : Nat, a = (a' : Int) := ⟨a.toNat, by omega⟩
    obtain ⟨E0, U0, b1, b2, b3, b4, b5⟩ := both.back (by omega) a' (by omega)
    rcases Nat.lt_or_ge a' p with hlt | hge
    · refine ⟨0, E0, U0, hs.take a', a', b1, by omega, fun W h => ?_, fun Q' A1' A2' c2' W h => ?_⟩
      · have hR := rundone_back A1 A2 n c1 p c2 a' (leas E n) (leas E0 n) hs W h.rs (by omega) hlt (b4 (by omega))
        rw [leas_len] at hR
        exact hR.mono fun e w' ⟨A1', A2', c1', c2', h1, h2, h3⟩ => ⟨A1', A2', c1', c2', h1, h.ref h2.out h3⟩
      · exact (undoSets_any (base := w.heap.size) g n a' E0 E U0 U W h.sets (by omega) (by omega) past b2 b3).mono fun e w' ⟨h1, h2, h3⟩ => ⟨h1, h.bk h2 h3⟩
    · obtain rfl : a' = p := by omega
      refine ⟨0, E, U, hs, a', both, by omega, fun W h => ?_, fun Q' A1' A2' c2' W h => ?_⟩
      · exact (rundone_same A1 A2 n c1 a' c2 a' 0 W (by omega) (.inl ⟨rfl, rfl⟩)).mono fun e w' ⟨h1, h2⟩ => ⟨_, _, _, _, h1, h.same h2⟩
      · exact (undoSets_any (base := w.heap.size) g n a' E E U U W h.sets (by omega) (by omega) past Chain.here (by omega)).mono fun e w' ⟨h1, h2, h3⟩ => ⟨h1, h.bk h2 h3⟩
end
end Go.Proofs.Ytimgnmlcgnibhaa.Tok
