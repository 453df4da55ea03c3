/- The reference's sets: Union, where two sets become one. -/
import Derived.Test.YtimgnmlcgnibhaaRSets4
import Derived.Deep.RegionHeldLaw
namespace Go.Proofs.Ytimgnmlcgnibhaa.Tok
open Go.RowKit Go.Proofs.Ytimgnmlcgnibhaa

/-- The new sets with their past, and no elements yet. -/
def NewPast (w : World) (A1 : Option Addr) (n c1 : Nat) (A2 : Option Addr) (p c2 : Nat) (hs : List (List Nat)) (s : Value) (wx : World) : Prop :=
  ∃ (B : Nat) (A' : Option Addr) (c' : Nat) (vs : List Value), s = .pointer (some ⟨B, 0, none⟩) ∧ w.heap.size + 2 ≤ B ∧ wx.heap[B]? = some (.cells #[.slice none 0 0, .slice A' (p + 1) c'] 84 (0, 0)) ∧
    wx.ownsRow w.heap.size 50 1 (.slice A' (p + 1) c') (p + 1) vs ∧ (∀ (i : Nat) (v : Value) (l : List Nat), vs[i]? = some v → hs[i]? = some l → ∃ A c, v = .slice A l.length c ∧ RdT w 3 A l.length (nats l)) ∧
    wx.heap[w.heap.size]? = some (.cells #[.slice A1 n c1, .slice A2 p c2] 84 (0, 0)) ∧ wx.heap[w.heap.size + 1]? = some (.cells #[.slice none 0 0, .slice none 0 0] 84 (0, 0)) ∧ Below w.heap.size w wx
/-- What holds all through the region that makes the new sets. -/
structure SInv (w : World) (a b : Obj) (W : World) : Prop where
  r0 : W.heap[w.heap.size]? = some a
  r1 : W.heap[w.heap.size + 1]? = some b
  bel : Below w.heap.size w W
  sz : w.heap.size + 2 ≤ W.heap.size
section
variable {w W W1 : World} {a b : Obj}
theorem SInv.next (h : Hid (SInv w a b W)) (hb : Below W.heap.size W W1) : SInv w a b W1 := by
  have k := h.out
  have hs := hb.size
  exact ⟨(hb.block _ (by have := k.sz; omega)).trans k.r0, (hb.block _ (by have := k.sz; omega)).trans k.r1, k.bel.trans (hb.mono (by have := k.sz; omega)), by have := k.sz; omega⟩
theorem SInv.alloc (h : Hid (SInv w a b W)) (o : Obj) : SInv w a b (W.alloc o) := SInv.next h ((Below.refl _ _).alloc (Nat.le_refl _) _)
theorem SInv.grown {row : Option Nat} (h : Hid (SInv w a b W)) (hg : W.grownBy W1 row) (hr : ∀ q, row = some q → w.heap.size + 2 ≤ q) : SInv w a b W1 := by
  have k := h.out
  have hs := hg.size
  refine ⟨(hg.block _ (by have := k.sz; omega) ?_).trans k.r0, (hg.block _ (by have := k.sz; omega) ?_).trans k.r1, k.bel.grown hg (by have := k.sz; omega) (fun q hq => by have := hr q hq; omega), by have := k.sz; omega⟩
  · intro e; have := hr _ e.symm; omega
  · intro e; have := hr _ e.symm; omega
theorem SInv.setCell (h : Hid (SInv w a b W)) {g off : Nat} (hp : w.heap.size + 2 ≤ g) (v : Value) : SInv w a b (W.setCell ⟨g, off, none⟩ v) := by
  have k := h.out
  refine ⟨(heap_setCell_other _ _ _ _ (by show _ ≠ g; omega)).trans k.r0, (heap_setCell_other _ _ _ _ (by show _ ≠ g; omega)).trans k.r1, k.bel.setCell (by show _ ≤ g; omega) v, by simpa using k.sz⟩
theorem SInv.all {A1 A2 : Option Addr} {n c1 p c2 : Nat} (h : SInv w (.cells #[.slice A1 n c1, .slice A2 p c2] 84) b W) :
    W.cell? ⟨w.heap.size, 0, none⟩ = some (.slice A1 n c1) ∧ W.cell? ⟨w.heap.size, 1, none⟩ = some (.slice A2 p c2) ∧ Hid (SInv w (.cells #[.slice A1 n c1, .slice A2 p c2] 84) b W) :=
  ⟨(cell_of_row _ _ 0 _ _ _ h.r0).trans rfl, (cell_of_row _ _ 1 _ _ _ h.r0).trans rfl, h⟩
theorem rd_inv {T : TypeId} {A : Option Addr} {n : Nat} {xs : List Value} (h : RdT w T A n xs) (k : Hid (SInv w a b W)) : Rd W W.heap.size 1 A n xs := (h.below k.out.bel).rd
theorem inv_base (k : Hid (SInv w a b W)) : w.heap.size ≤ W.heap.size := k.out.bel.size
theorem own_empty {base B : Nat} {T : TypeId} (h : W.heap[B]? = some (.cells #[] T (0, 0))) (hb : base ≤ B) : W.ownsRow base T 1 (.slice (some ⟨B, 0, none⟩) 0 0) 0 [] :=
  ⟨by simp, .inr ⟨B, 0, #[], rfl, hb, h, Nat.le_refl _, by decide, by simp, by simp⟩⟩
end
/-- append onto an empty slice of the call's own, at a step of a region that draws. -/
theorem step_append_rd0 {P : Program} (w : World) {ops : Array Oper} {o : Oper} {a : Act} {K : Act → World → Prop} {Q : Exit → Act → World → Prop} {E : Prop} (hgd : o.guard = none) (s x : Operand) (t : TypeId)
    (ho : o.op = .call { callee := .builtin .append, args := #[s, x], argTypes := #[t, t] })
    (base : Nat) (e : TypeId) (i : TypeInfo) (z : Value) (size bytes : Nat) (ht : P.underlying t = some (.slice e)) (hi : P.info? e = some i) (hz : i.zero = some z)
    (hsize : i.size = size) (hby : i.bytes = bytes) (hzs : z.cells.size = size) (hsz : 0 < size)
    (B39 : Nat) (hs : a.eval s = .slice (some ⟨B39, 0, none⟩) 0 0) (hown : w.ownsRow base e size (.slice (some ⟨B39, 0, none⟩) 0 0) 0 [])
    (B : Nat) (A : Option Addr) (m c : Nat) (news : List Value) (hx : a.eval x = .slice A m c) (hr : Rd w B size A m news) (h1 : ∀ u ∈ news, u.oneCell' = true)
    (h63 : m ≤ maxLen) (hbytes : m * bytes ≤ 140737488355328) (hbase : base ≤ w.heap.size)
    (h : ∀ A' c' w', w'.ownsRow base e size (.slice A' m c') m news → w.grownBy w' (some B39) → K (a.put o.dst (.slice A' m c')) w') :
    if Region.wanted o (yielded ops a.tmps) = true then Oper.wp P o a w K Q else E := by
  refine step_append_rd w hgd s x t ho base e i z size bytes ht hi hz hsize hby hzs hsz _ 0 [] hs hown B A m c news hx hr h1 (by rw [Nat.zero_add]; exact h63) (by rw [Nat.zero_add]; exact hbytes) hbase fun A' c' w' h2 h3 => ?_
  rw [Nat.zero_add] at h2 ⊢
  rw [List.nil_append] at h2
  exact h A' c' w' h2 h3
theorem RdT.setRow_keep {w : World} {T T' : TypeId} {A : Option Addr} {n g : Nat} {xs : List Value} {cs0 : Array Value} {fr0 : Nat × Nat} (h : RdT w T A n xs) (hg : w.heap[g]? = some (.cells cs0 T' fr0)) (hne : T ≠ T') (cs : Array Value) : RdT (w.setRow g cs) T A n xs := by
  refine ⟨h.1, fun hn => ?_⟩
  obtain ⟨b, off, cs1, fr, e, hh, hc⟩ := h.2 hn
  refine ⟨b, off, cs1, fr, e, (setRow_other _ _ _ _ ?_).trans hh, hc⟩
  rintro rfl
  rw [hh] at hg
  injection hg with hg
  injection hg with _ hg
  exact hne hg
theorem have_of {p q : Prop} (h : p) (k : p → q) : q := k h
theorem heap_at (W : World) (o : Obj) (B : Nat) (h : B = W.heap.size) : (W.alloc o).heap[B]? = some o := by
  subst h
  exact heap_alloc_new _ _
theorem heap_up (W : World) (o : Obj) (B : Nat) (h : B < W.heap.size) {x : Obj} (k : W.heap[B]? = some x) : (W.alloc o).heap[B]? = some x := (heap_alloc_old _ _ h).trans k
theorem heap_gr {W W1 : World} {row : Option Nat} (hg : W.grownBy W1 row) (B : Nat) (h : B < W.heap.size) (hne : some B ≠ row) {x : Obj} (k : W.heap[B]? = some x) : W1.heap[B]? = some x := (hg.block B h hne).trans k
theorem rd_one {W : World} {B : Nat} {v : Value} {T : TypeId} (h : W.heap[B]? = some (.cells #[v] T (0, 0))) : Rd W W.heap.size 1 (some ⟨B, 0, none⟩) 1 [v] := by
  refine ⟨rfl, fun _ => ⟨B, 0, rfl, (Array.getElem?_eq_some_iff.1 h).1, fun j u hu => ?_⟩⟩
  rw [cell_of_row _ _ _ _ _ _ h]
  rcases j with _ | j
  · simpa using hu
  · simp at hu
theorem SInv.swap {w W : World} {a b o : Obj} (h : Hid (SInv w a b (W.alloc o))) (o' : Obj) (hz : w.heap.size + 2 ≤ W.heap.size) : SInv w a b (W.alloc o') := by
  have k := h.out
  refine ⟨?_, ?_, ⟨k.bel.1, k.bel.2, k.bel.3, by simp <;> omega, fun i hi => ?_⟩, by simp <;> omega⟩
  · have := k.r0
    rw [heap_alloc_old _ _ (by omega)] at this ⊢
    exact this
  · have := k.r1
    rw [heap_alloc_old _ _ (by omega)] at this ⊢
    exact this
  · have := k.bel.block i hi
    rw [heap_alloc_old _ _ (by omega)] at this ⊢
    exact this
section
variable {w w2 : World} {A1 A2 A' : Option Addr} {n c1 p c2 c' : Nat} {cur : List Nat} {hs : List (List Nat)} {vs : List Value}
theorem past_snoc (Hrs : Hid (RS w A1 n A2 p c2 cur hs)) (Hrd : Hid (RdT w 50 A2 p vs)) (Hpl : Hid (hs.length = p)) (Hvs : Hid (∀ (i : Nat) (v : Value) (l : List Nat), vs[i]? = some v → hs[i]? = some l → ∃ A c, v = .slice A l.length c ∧ RdT w 3 A l.length (nats l))) :
    ∀ (i : Nat) (v : Value) (l : List Nat), (vs ++ [.slice A1 n c1])[i]? = some v → (hs ++ [cur])[i]? = some l → ∃ A c, v = .slice A l.length c ∧ RdT w 3 A l.length (nats l) := by
  intro i v l h1 h2
  have hp := Hpl.out
  have hv := Hrd.out.1
  rcases Nat.lt_or_ge i p with hi | hi
  · rw [List.getElem?_append_left (by omega)] at h1 h2
    obtain ⟨A, c, e, k⟩ := Hvs.out i v l h1 h2
    exact ⟨A, c, e, k⟩
  · rw [List.getElem?_append_right (by omega)] at h1 h2
    have e1 : i - vs.length = 0 := by
      have := (List.getElem?_eq_some_iff.1 h1).1
      simp at this
      omega
    have e2 : i - hs.length = 0 := by omega
    rw [e1] at h1
    rw [e2] at h2
    simp at h1 h2
    subst h1 h2
    have h3 := Hrs.out.cur
    have h4 : cur.length = n := by have := h3.1; rwa [nats_len] at this
    subst h4
    exact ⟨A1, c1, rfl, h3⟩
theorem own_base {w : World} {b b' e z n : Nat} {v : Value} {xs : List Value} (h : w.ownsRow b e z v n xs) (hb : b' ≤ b) : w.ownsRow b' e z v n xs := by
  refine ⟨h.1, ?_⟩
  rcases h.2 with h1 | ⟨g, cap, cur, h1, h2, h3⟩
  · exact .inl h1
  · exact .inr ⟨g, cap, cur, h1, by omega, h3⟩
theorem newPast_alloc (HI : Hid (SInv w (.cells #[.slice A1 n c1, .slice A2 p c2] 84) (.cells #[.slice none 0 0, .slice none 0 0] 84) (w2.alloc (.cells #[.slice none 0 0, .slice A' (p + 1) c'] 84))))
    (hown : w2.ownsRow (w.heap.size + 2) 50 1 (.slice A' (p + 1) c') (p + 1) (vs ++ [.slice A1 n c1])) (hz : w.heap.size + 2 ≤ w2.heap.size) (Hrs : Hid (RS w A1 n A2 p c2 cur hs)) (Hrd : Hid (RdT w 50 A2 p vs)) (Hpl : Hid (hs.length = p)) (Hvs : Hid (∀ (i : Nat) (v : Value) (l : List Nat), vs[i]? = some v → hs[i]? = some l → ∃ A c, v = .slice A l.length c ∧ RdT w 3 A l.length (nats l))) :
    NewPast w A1 n c1 A2 p c2 (hs ++ [cur]) (.pointer (some ⟨w2.heap.size, 0, none⟩)) (w2.alloc (.cells #[.slice none 0 0, .slice A' (p + 1) c'] 84)) :=
  ⟨w2.heap.size, A', c', _, rfl, hz, heap_alloc_new _ _, (own_base hown (by omega)).alloc _, past_snoc Hrs Hrd Hpl Hvs, HI.out.r0, HI.out.r1, HI.out.bel⟩
theorem newPast_store {B : Nat} (HI : Hid (SInv w (.cells #[.slice A1 n c1, .slice A2 p c2] 84) (.cells #[.slice none 0 0, .slice none 0 0] 84) ((w2.setCell ⟨B, 0, none⟩ (.slice none 0 0)).setCell ⟨B, 1, none⟩ (.slice A' (p + 1) c'))))
    (hown : w2.ownsRow (w.heap.size + 2) 50 1 (.slice A' (p + 1) c') (p + 1) (vs ++ [.slice A1 n c1])) (hB : w.heap.size + 2 ≤ B) (hrow : w2.heap[B]? = some (.cells #[.slice none 0 0, .slice none 0 0] 84 (0, 0))) (Hrs : Hid (RS w A1 n A2 p c2 cur hs)) (Hrd : Hid (RdT w 50 A2 p vs)) (Hpl : Hid (hs.length = p)) (Hvs : Hid (∀ (i : Nat) (v : Value) (l : List Nat), vs[i]? = some v → hs[i]? = some l → ∃ A c, v = .slice A l.length c ∧ RdT w 3 A l.length (nats l))) :
    NewPast w A1 n c1 A2 p c2 (hs ++ [cur]) (.pointer (some ⟨B, 0, none⟩)) ((w2.setCell ⟨B, 0, none⟩ (.slice none 0 0)).setCell ⟨B, 1, none⟩ (.slice A' (p + 1) c')) := by
  have ho0 := own_base hown (show w.heap.size ≤ w.heap.size + 2 by omega)
  have ho1 := own_setCell_other ho0 (a := ⟨B, 0, none⟩) (own_apartS ho0 hrow (by decide)) (.slice none 0 0)
  have q2 := heap_setCell_same w2 _ 0 _ _ (.slice none 0 0) hrow
  have ho2 := own_setCell_other ho1 (a := ⟨B, 1, none⟩) (own_apartS ho1 q2 (by decide)) (.slice A' (p + 1) c')
  exact ⟨B, A', c', _, rfl, hB, heap_setCell_same _ _ 1 _ _ _ q2, ho2, past_snoc Hrs Hrd Hpl Hvs, HI.out.r0, HI.out.r1, HI.out.bel⟩
end
set_option maxHeartbeats 3200000 in
set_option maxRecDepth 8000 in
theorem runion_join (A1 A2 : Option Addr) (n c1 p c2 a b x y : Nat) (cur : List Nat) (hs : List (List Nat)) (w : World) (h : RS w A1 n A2 p c2 cur hs) (hn : n ≤ 60) (hp : p ≤ 1000) (ha : cur[a]? = some x) (hb : cur[b]? = some y) (hxy : x ≠ y) :
    Calls Try.prog 46 #[.agg #[.slice A1 n c1, .slice A2 p c2], .int .i64 a, .int .i64 b] w fun e w' => ∃ (A1' A2' : Option Addr) (c1' c2' : Nat), e = .returned (.tuple #[.agg #[.slice A1' n c1', .slice A2' (p + 1) c2'], .bool true, .int .i64 0]) ∧
      Hid (RS w' A1' n A2' (p + 1) c2' (cur.map fun z => if z = x ∨ z = y then min x y else z) (hs ++ [cur])) ∧ Below w.heap.size w w' := by
  obtain ⟨i0, hi0, iz0, iz1, iz2⟩ := info_parts infoSl12
  obtain ⟨i1, hi1, jz0, jz1, jz2⟩ := info_parts infoIn12
  have HF : Hid (∀ W, Below w.heap.size w W → Calls Try.prog 47 #[.agg #[.slice A1 n c1, .slice A2 p c2], .int .i64 (a : Nat)] W fun e w' => e = .returned (.tuple #[.int .i64 (x : Nat), .int .i64 0]) ∧ Below W.heap.size W w') := fun W hW => rfind_in A1 A2 n c1 p c2 a x cur W (h.cur.below hW) (by omega) ha
  have HG : Hid (∀ W, Below w.heap.size w W → Calls Try.prog 47 #[.agg #[.slice A1 n c1, .slice A2 p c2], .int .i64 (b : Nat)] W fun e w' => e = .returned (.tuple #[.int .i64 (y : Nat), .int .i64 0]) ∧ Below W.heap.size W w') := fun W hW => rfind_in A1 A2 n c1 p c2 b y cur W (h.cur.below hW) (by omega) hb
  have g1 : ((x : Int) == (y : Int)) = false := by rw [beq_eq_false_iff_ne]; omega
  have g2 : (x == y) = false := by rw [beq_eq_false_iff_ne]; omega
  have Hrs := Lib.hid h
  clear h ha hb
  go_enter Try.func46, Try.ntmps46
  go_wp2_with fail
  refine (HF.out _ (((Below.refl _ _).alloc (Nat.le_refl _) _).alloc (by simp) _)).mono ?_
  rintro e w1 ⟨rfl, hb1⟩
  obtain ⟨r0, r1, hb, hz⟩ := rows_kept hb1
  have Hb := Lib.hid hb
  have R1 := Lib.hid r1
  have R0 := Lib.hid r0
  clear hb1 hb r1
  go_wp2_with (refine wpList_load_row rfl 84 (.tmp 3) rfl w.heap.size rfl 84 #[.slice A1 n c1, .slice A2 p c2] (0, 0) _ r0 Try.underlying84 rfl sizeRS ?_)
  refine (HG.out _ Hb.out).mono ?_
  rintro e wq ⟨rfl, hb2⟩
  have HR0 := Lib.hid ((hb2.block w.heap.size (by omega)).trans R0.out)
  have HR1 := Lib.hid ((hb2.block (w.heap.size + 1) (by omega)).trans R1.out)
  have HBq := Lib.hid (Hb.out.trans (hb2.mono (by omega)))
  have hzq : w.heap.size + 2 ≤ wq.heap.size := by have := hb2.size; omega
  clear hb2 r0 R0 R1 Hb HF HG hz
  go_wp2
  go_cut [12] (fun s wx => NewPast w A1 n c1 A2 p c2 (hs ++ [cur]) s wx)
  case first =>
    have HI0 : Hid (SInv w (.cells #[.slice A1 n c1, .slice A2 p c2] 84) (.cells #[.slice none 0 0, .slice none 0 0] 84) wq.drew) := ⟨HR0.out, HR1.out, HBq.out.drew, hzq⟩
    have c00 := HI0.out.all.1
    have c01 := HI0.out.all.2.1
    obtain ⟨vs, hrd, hpl, hvs⟩ := Hrs.out.past
    have hone : Hid (∀ u ∈ vs, u.oneCell' = true) := past_one (by have := hrd.1; omega) hvs
    have Hrd := Lib.hid hrd
    have Hvs := Lib.hid hvs
    have Hpl := Lib.hid hpl
    have HL1 : Hid (∀ u ∈ [Value.slice A1 n c1], u.oneCell' = true) := by show ∀ u ∈ _, _; intro u hu; simp at hu; subst hu; rfl
    have g63 : p ≤ maxLen := by simp only [maxLen]; omega
    have gby : p * 24 ≤ 140737488355328 := by omega
    have g63' : p + 1 ≤ maxLen := by simp only [maxLen]; omega
    have gby' : (p + 1) * 24 ≤ 140737488355328 := by omega
    clear hrd hvs hpl HR0 HR1 HBq
    go_region_held_law? (fun w' => w'.cell? ⟨w.heap.size, 0, none⟩ = some (.slice A1 n c1) ∧ w'.cell? ⟨w.heap.size, 1, none⟩ = some (.slice A2 p c2) ∧ Hid (SInv w (.cells #[.slice A1 n c1, .slice A2 p c2] 84) (.cells #[.slice none 0 0, .slice none 0 0] 84) w'))
      (first
        | exact HI0.out.all
        | (go_split_ands; exact SInv.all (SInv.alloc (by assumption) _))
        | (go_split_ands; exact SInv.all (SInv.swap (by assumption) _ (by omega)))
        | (go_split_ands; exact SInv.all (SInv.grown (by assumption) hgrow1 (by intro q hq; injection hq with hq; omega)))
        | (go_split_ands; exact SInv.all (SInv.grown (by assumption) hgrow2 (by intro q hq; exact hlow1 q hq)))
        | (go_split_ands; exact SInv.all (SInv.setCell (SInv.setCell (by assumption) (by omega) _) (by omega) _)))
      (first
        | (go_split_ands; refine step_append_rd0 _ (by rfl) (.tmp 39) (.tmp 41) _ (by rfl) (w.heap.size + 2) 50 i0 _ 1 24 Try.underlying82 hi0 iz0 iz1 iz2 rfl (by omega) _ (by rfl) (own_empty (by (first | ((repeat (first | assumption | (refine heap_at _ _ _ ?_; (first | rfl | omega | (simp <;> omega)); done) | (refine heap_up _ _ _ ?_ ?_; (· (first | omega | (simp <;> omega)))) | (refine heap_gr hgrow1 _ ?_ ?_ ?_; (· (first | omega | (simp <;> omega))); (· (intro e; injection e with e; omega))))); done) | fail)) (by first | omega | (simp <;> omega))) _ A2 p c2 vs (by rfl) (rd_inv Hrd.out (by assumption)) hone.out g63 gby (by simp <;> omega) ?_; intro A' c' w1 hown1 hgrow1; (have hz1 := hgrow1.size); (try simp at hz1); (have hlow1 : ∀ q, (Value.slice A' p c').ownBlock = some q → w.heap.size + 2 ≤ q := fun q hq => (hown1.lt q hq).1); (have hup1 : ∀ q, (Value.slice A' p c').ownBlock = some q → q < w1.heap.size := fun q hq => (hown1.lt q hq).2))
        | (go_split_ands; first
          | (refine step_append_rd _ (by rfl) (.tmp 42) (.tmp 45) _ (by rfl) (w.heap.size + 2) 50 i0 _ 1 24 Try.underlying82 hi0 iz0 iz1 iz2 rfl (by omega) (.slice A' p c') p vs (by rfl) (hown1) _ _ 1 1 [.slice A1 n c1] (by rfl) (rd_one (by (first | ((repeat (first | assumption | (refine heap_at _ _ _ ?_; (first | rfl | omega | (simp <;> omega)); done) | (refine heap_up _ _ _ ?_ ?_; (· (first | omega | (simp <;> omega)))) | (refine heap_gr hgrow1 _ ?_ ?_ ?_; (· (first | omega | (simp <;> omega))); (· (intro e; injection e with e; omega))))); done) | fail))) HL1.out g63' gby' (by first | omega | (simp <;> omega)) ?_; intro A'' c'' w2 hown2 hgrow2; (have hz2 := hgrow2.size); (try simp at hz2); first | ((refine have_of (p := w2.heap[wq.heap.size]? = some (.cells #[.slice none 0 0, .slice none 0 0] 84 (0, 0))) ?_ ?_; · (first | (refine heap_gr hgrow2 _ ?_ ?_ ?_; (· (first | omega | (simp <;> omega))); (· (first | (intro e; have := hup1 _ e.symm; omega) | (refine own_apartS (e' := 84) (cs := #[.slice none 0 0, .slice none 0 0]) (fr := (0, 0)) hown1 ?_ ?_; (· (first | ((repeat (first | assumption | (refine heap_at _ _ _ ?_; (first | rfl | omega | (simp <;> omega)); done) | (refine heap_up _ _ _ ?_ ?_; (· (first | omega | (simp <;> omega)))) | (refine heap_gr hgrow1 _ ?_ ?_ ?_; (· (first | omega | (simp <;> omega))); (· (intro e; injection e with e; omega))))); done) | fail)); (· decide)))); (first | ((repeat (first | assumption | (refine heap_at _ _ _ ?_; (first | rfl | omega | (simp <;> omega)); done) | (refine heap_up _ _ _ ?_ ?_; (· (first | omega | (simp <;> omega)))) | (refine heap_gr hgrow1 _ ?_ ?_ ?_; (· (first | omega | (simp <;> omega))); (· (intro e; injection e with e; omega))))); done) | fail); done) | fail)); intro r12; (have k12 := (cell_of_row _ _ 0 _ _ _ r12).trans (rfl : _ = some (Value.slice none 0 0))); (have k13 := (cell_of_row _ _ 1 _ _ _ r12).trans (rfl : _ = some (Value.slice none 0 0))); (have k14 := frozen_of_row _ _ 0 _ _ r12); (have k15 := frozen_of_row _ _ 1 _ _ r12)) | ((refine have_of (p := w2.heap[wq.heap.size + 1]? = some (.cells #[.slice none 0 0, .slice none 0 0] 84 (0, 0))) ?_ ?_; · (first | (refine heap_gr hgrow2 _ ?_ ?_ ?_; (· (first | omega | (simp <;> omega))); (· (first | (intro e; have := hup1 _ e.symm; omega) | (refine own_apartS (e' := 84) (cs := #[.slice none 0 0, .slice none 0 0]) (fr := (0, 0)) hown1 ?_ ?_; (· (first | ((repeat (first | assumption | (refine heap_at _ _ _ ?_; (first | rfl | omega | (simp <;> omega)); done) | (refine heap_up _ _ _ ?_ ?_; (· (first | omega | (simp <;> omega)))) | (refine heap_gr hgrow1 _ ?_ ?_ ?_; (· (first | omega | (simp <;> omega))); (· (intro e; injection e with e; omega))))); done) | fail)); (· decide)))); (first | ((repeat (first | assumption | (refine heap_at _ _ _ ?_; (first | rfl | omega | (simp <;> omega)); done) | (refine heap_up _ _ _ ?_ ?_; (· (first | omega | (simp <;> omega)))) | (refine heap_gr hgrow1 _ ?_ ?_ ?_; (· (first | omega | (simp <;> omega))); (· (intro e; injection e with e; omega))))); done) | fail); done) | fail)); intro r12; (have k12 := (cell_of_row _ _ 0 _ _ _ r12).trans (rfl : _ = some (Value.slice none 0 0))); (have k13 := (cell_of_row _ _ 1 _ _ _ r12).trans (rfl : _ = some (Value.slice none 0 0))); (have k14 := frozen_of_row _ _ 0 _ _ r12); (have k15 := frozen_of_row _ _ 1 _ _ r12)) | ((refine have_of (p := w2.heap[wq.heap.size + 2]? = some (.cells #[.slice none 0 0, .slice none 0 0] 84 (0, 0))) ?_ ?_; · (first | (refine heap_gr hgrow2 _ ?_ ?_ ?_; (· (first | omega | (simp <;> omega))); (· (first | (intro e; have := hup1 _ e.symm; omega) | (refine own_apartS (e' := 84) (cs := #[.slice none 0 0, .slice none 0 0]) (fr := (0, 0)) hown1 ?_ ?_; (· (first | ((repeat (first | assumption | (refine heap_at _ _ _ ?_; (first | rfl | omega | (simp <;> omega)); done) | (refine heap_up _ _ _ ?_ ?_; (· (first | omega | (simp <;> omega)))) | (refine heap_gr hgrow1 _ ?_ ?_ ?_; (· (first | omega | (simp <;> omega))); (· (intro e; injection e with e; omega))))); done) | fail)); (· decide)))); (first | ((repeat (first | assumption | (refine heap_at _ _ _ ?_; (first | rfl | omega | (simp <;> omega)); done) | (refine heap_up _ _ _ ?_ ?_; (· (first | omega | (simp <;> omega)))) | (refine heap_gr hgrow1 _ ?_ ?_ ?_; (· (first | omega | (simp <;> omega))); (· (intro e; injection e with e; omega))))); done) | fail); done) | fail)); intro r12; (have k12 := (cell_of_row _ _ 0 _ _ _ r12).trans (rfl : _ = some (Value.slice none 0 0))); (have k13 := (cell_of_row _ _ 1 _ _ _ r12).trans (rfl : _ = some (Value.slice none 0 0))); (have k14 := frozen_of_row _ _ 0 _ _ r12); (have k15 := frozen_of_row _ _ 1 _ _ r12)) | ((refine have_of (p := w2.heap[w1.heap.size]? = some (.cells #[.slice none 0 0, .slice none 0 0] 84 (0, 0))) ?_ ?_; · (first | (refine heap_gr hgrow2 _ ?_ ?_ ?_; (· (first | omega | (simp <;> omega))); (· (first | (intro e; have := hup1 _ e.symm; omega) | (refine own_apartS (e' := 84) (cs := #[.slice none 0 0, .slice none 0 0]) (fr := (0, 0)) hown1 ?_ ?_; (· (first | ((repeat (first | assumption | (refine heap_at _ _ _ ?_; (first | rfl | omega | (simp <;> omega)); done) | (refine heap_up _ _ _ ?_ ?_; (· (first | omega | (simp <;> omega)))) | (refine heap_gr hgrow1 _ ?_ ?_ ?_; (· (first | omega | (simp <;> omega))); (· (intro e; injection e with e; omega))))); done) | fail)); (· decide)))); (first | ((repeat (first | assumption | (refine heap_at _ _ _ ?_; (first | rfl | omega | (simp <;> omega)); done) | (refine heap_up _ _ _ ?_ ?_; (· (first | omega | (simp <;> omega)))) | (refine heap_gr hgrow1 _ ?_ ?_ ?_; (· (first | omega | (simp <;> omega))); (· (intro e; injection e with e; omega))))); done) | fail); done) | fail)); intro r12; (have k12 := (cell_of_row _ _ 0 _ _ _ r12).trans (rfl : _ = some (Value.slice none 0 0))); (have k13 := (cell_of_row _ _ 1 _ _ _ r12).trans (rfl : _ = some (Value.slice none 0 0))); (have k14 := frozen_of_row _ _ 0 _ _ r12); (have k15 := frozen_of_row _ _ 1 _ _ r12)) | ((refine have_of (p := w2.heap[w1.heap.size + 1]? = some (.cells #[.slice none 0 0, .slice none 0 0] 84 (0, 0))) ?_ ?_; · (first | (refine heap_gr hgrow2 _ ?_ ?_ ?_; (· (first | omega | (simp <;> omega))); (· (first | (intro e; have := hup1 _ e.symm; omega) | (refine own_apartS (e' := 84) (cs := #[.slice none 0 0, .slice none 0 0]) (fr := (0, 0)) hown1 ?_ ?_; (· (first | ((repeat (first | assumption | (refine heap_at _ _ _ ?_; (first | rfl | omega | (simp <;> omega)); done) | (refine heap_up _ _ _ ?_ ?_; (· (first | omega | (simp <;> omega)))) | (refine heap_gr hgrow1 _ ?_ ?_ ?_; (· (first | omega | (simp <;> omega))); (· (intro e; injection e with e; omega))))); done) | fail)); (· decide)))); (first | ((repeat (first | assumption | (refine heap_at _ _ _ ?_; (first | rfl | omega | (simp <;> omega)); done) | (refine heap_up _ _ _ ?_ ?_; (· (first | omega | (simp <;> omega)))) | (refine heap_gr hgrow1 _ ?_ ?_ ?_; (· (first | omega | (simp <;> omega))); (· (intro e; injection e with e; omega))))); done) | fail); done) | fail)); intro r12; (have k12 := (cell_of_row _ _ 0 _ _ _ r12).trans (rfl : _ = some (Value.slice none 0 0))); (have k13 := (cell_of_row _ _ 1 _ _ _ r12).trans (rfl : _ = some (Value.slice none 0 0))); (have k14 := frozen_of_row _ _ 0 _ _ r12); (have k15 := frozen_of_row _ _ 1 _ _ r12)) | skip)
          | (refine step_append_rd _ (by rfl) (.tmp 42) (.tmp 45) _ (by rfl) (w.heap.size + 2) 50 i0 _ 1 24 Try.underlying82 hi0 iz0 iz1 iz2 rfl (by omega) (.slice A' p c') p vs (by rfl) (hown1.alloc _) _ _ 1 1 [.slice A1 n c1] (by rfl) (rd_one (by (first | ((repeat (first | assumption | (refine heap_at _ _ _ ?_; (first | rfl | omega | (simp <;> omega)); done) | (refine heap_up _ _ _ ?_ ?_; (· (first | omega | (simp <;> omega)))) | (refine heap_gr hgrow1 _ ?_ ?_ ?_; (· (first | omega | (simp <;> omega))); (· (intro e; injection e with e; omega))))); done) | fail))) HL1.out g63' gby' (by first | omega | (simp <;> omega)) ?_; intro A'' c'' w2 hown2 hgrow2; (have hz2 := hgrow2.size); (try simp at hz2); first | ((refine have_of (p := w2.heap[wq.heap.size]? = some (.cells #[.slice none 0 0, .slice none 0 0] 84 (0, 0))) ?_ ?_; · (first | (refine heap_gr hgrow2 _ ?_ ?_ ?_; (· (first | omega | (simp <;> omega))); (· (first | (intro e; have := hup1 _ e.symm; omega) | (refine own_apartS (e' := 84) (cs := #[.slice none 0 0, .slice none 0 0]) (fr := (0, 0)) hown1 ?_ ?_; (· (first | ((repeat (first | assumption | (refine heap_at _ _ _ ?_; (first | rfl | omega | (simp <;> omega)); done) | (refine heap_up _ _ _ ?_ ?_; (· (first | omega | (simp <;> omega)))) | (refine heap_gr hgrow1 _ ?_ ?_ ?_; (· (first | omega | (simp <;> omega))); (· (intro e; injection e with e; omega))))); done) | fail)); (· decide)))); (first | ((repeat (first | assumption | (refine heap_at _ _ _ ?_; (first | rfl | omega | (simp <;> omega)); done) | (refine heap_up _ _ _ ?_ ?_; (· (first | omega | (simp <;> omega)))) | (refine heap_gr hgrow1 _ ?_ ?_ ?_; (· (first | omega | (simp <;> omega))); (· (intro e; injection e with e; omega))))); done) | fail); done) | fail)); intro r12; (have k12 := (cell_of_row _ _ 0 _ _ _ r12).trans (rfl : _ = some (Value.slice none 0 0))); (have k13 := (cell_of_row _ _ 1 _ _ _ r12).trans (rfl : _ = some (Value.slice none 0 0))); (have k14 := frozen_of_row _ _ 0 _ _ r12); (have k15 := frozen_of_row _ _ 1 _ _ r12)) | ((refine have_of (p := w2.heap[wq.heap.size + 1]? = some (.cells #[.slice none 0 0, .slice none 0 0] 84 (0, 0))) ?_ ?_; · (first | (refine heap_gr hgrow2 _ ?_ ?_ ?_; (· (first | omega | (simp <;> omega))); (· (first | (intro e; have := hup1 _ e.symm; omega) | (refine own_apartS (e' := 84) (cs := #[.slice none 0 0, .slice none 0 0]) (fr := (0, 0)) hown1 ?_ ?_; (· (first | ((repeat (first | assumption | (refine heap_at _ _ _ ?_; (first | rfl | omega | (simp <;> omega)); done) | (refine heap_up _ _ _ ?_ ?_; (· (first | omega | (simp <;> omega)))) | (refine heap_gr hgrow1 _ ?_ ?_ ?_; (· (first | omega | (simp <;> omega))); (· (intro e; injection e with e; omega))))); done) | fail)); (· decide)))); (first | ((repeat (first | assumption | (refine heap_at _ _ _ ?_; (first | rfl | omega | (simp <;> omega)); done) | (refine heap_up _ _ _ ?_ ?_; (· (first | omega | (simp <;> omega)))) | (refine heap_gr hgrow1 _ ?_ ?_ ?_; (· (first | omega | (simp <;> omega))); (· (intro e; injection e with e; omega))))); done) | fail); done) | fail)); intro r12; (have k12 := (cell_of_row _ _ 0 _ _ _ r12).trans (rfl : _ = some (Value.slice none 0 0))); (have k13 := (cell_of_row _ _ 1 _ _ _ r12).trans (rfl : _ = some (Value.slice none 0 0))); (have k14 := frozen_of_row _ _ 0 _ _ r12); (have k15 := frozen_of_row _ _ 1 _ _ r12)) | ((refine have_of (p := w2.heap[wq.heap.size + 2]? = some (.cells #[.slice none 0 0, .slice none 0 0] 84 (0, 0))) ?_ ?_; · (first | (refine heap_gr hgrow2 _ ?_ ?_ ?_; (· (first | omega | (simp <;> omega))); (· (first | (intro e; have := hup1 _ e.symm; omega) | (refine own_apartS (e' := 84) (cs := #[.slice none 0 0, .slice none 0 0]) (fr := (0, 0)) hown1 ?_ ?_; (· (first | ((repeat (first | assumption | (refine heap_at _ _ _ ?_; (first | rfl | omega | (simp <;> omega)); done) | (refine heap_up _ _ _ ?_ ?_; (· (first | omega | (simp <;> omega)))) | (refine heap_gr hgrow1 _ ?_ ?_ ?_; (· (first | omega | (simp <;> omega))); (· (intro e; injection e with e; omega))))); done) | fail)); (· decide)))); (first | ((repeat (first | assumption | (refine heap_at _ _ _ ?_; (first | rfl | omega | (simp <;> omega)); done) | (refine heap_up _ _ _ ?_ ?_; (· (first | omega | (simp <;> omega)))) | (refine heap_gr hgrow1 _ ?_ ?_ ?_; (· (first | omega | (simp <;> omega))); (· (intro e; injection e with e; omega))))); done) | fail); done) | fail)); intro r12; (have k12 := (cell_of_row _ _ 0 _ _ _ r12).trans (rfl : _ = some (Value.slice none 0 0))); (have k13 := (cell_of_row _ _ 1 _ _ _ r12).trans (rfl : _ = some (Value.slice none 0 0))); (have k14 := frozen_of_row _ _ 0 _ _ r12); (have k15 := frozen_of_row _ _ 1 _ _ r12)) | ((refine have_of (p := w2.heap[w1.heap.size]? = some (.cells #[.slice none 0 0, .slice none 0 0] 84 (0, 0))) ?_ ?_; · (first | (refine heap_gr hgrow2 _ ?_ ?_ ?_; (· (first | omega | (simp <;> omega))); (· (first | (intro e; have := hup1 _ e.symm; omega) | (refine own_apartS (e' := 84) (cs := #[.slice none 0 0, .slice none 0 0]) (fr := (0, 0)) hown1 ?_ ?_; (· (first | ((repeat (first | assumption | (refine heap_at _ _ _ ?_; (first | rfl | omega | (simp <;> omega)); done) | (refine heap_up _ _ _ ?_ ?_; (· (first | omega | (simp <;> omega)))) | (refine heap_gr hgrow1 _ ?_ ?_ ?_; (· (first | omega | (simp <;> omega))); (· (intro e; injection e with e; omega))))); done) | fail)); (· decide)))); (first | ((repeat (first | assumption | (refine heap_at _ _ _ ?_; (first | rfl | omega | (simp <;> omega)); done) | (refine heap_up _ _ _ ?_ ?_; (· (first | omega | (simp <;> omega)))) | (refine heap_gr hgrow1 _ ?_ ?_ ?_; (· (first | omega | (simp <;> omega))); (· (intro e; injection e with e; omega))))); done) | fail); done) | fail)); intro r12; (have k12 := (cell_of_row _ _ 0 _ _ _ r12).trans (rfl : _ = some (Value.slice none 0 0))); (have k13 := (cell_of_row _ _ 1 _ _ _ r12).trans (rfl : _ = some (Value.slice none 0 0))); (have k14 := frozen_of_row _ _ 0 _ _ r12); (have k15 := frozen_of_row _ _ 1 _ _ r12)) | ((refine have_of (p := w2.heap[w1.heap.size + 1]? = some (.cells #[.slice none 0 0, .slice none 0 0] 84 (0, 0))) ?_ ?_; · (first | (refine heap_gr hgrow2 _ ?_ ?_ ?_; (· (first | omega | (simp <;> omega))); (· (first | (intro e; have := hup1 _ e.symm; omega) | (refine own_apartS (e' := 84) (cs := #[.slice none 0 0, .slice none 0 0]) (fr := (0, 0)) hown1 ?_ ?_; (· (first | ((repeat (first | assumption | (refine heap_at _ _ _ ?_; (first | rfl | omega | (simp <;> omega)); done) | (refine heap_up _ _ _ ?_ ?_; (· (first | omega | (simp <;> omega)))) | (refine heap_gr hgrow1 _ ?_ ?_ ?_; (· (first | omega | (simp <;> omega))); (· (intro e; injection e with e; omega))))); done) | fail)); (· decide)))); (first | ((repeat (first | assumption | (refine heap_at _ _ _ ?_; (first | rfl | omega | (simp <;> omega)); done) | (refine heap_up _ _ _ ?_ ?_; (· (first | omega | (simp <;> omega)))) | (refine heap_gr hgrow1 _ ?_ ?_ ?_; (· (first | omega | (simp <;> omega))); (· (intro e; injection e with e; omega))))); done) | fail); done) | fail)); intro r12; (have k12 := (cell_of_row _ _ 0 _ _ _ r12).trans (rfl : _ = some (Value.slice none 0 0))); (have k13 := (cell_of_row _ _ 1 _ _ _ r12).trans (rfl : _ = some (Value.slice none 0 0))); (have k14 := frozen_of_row _ _ 0 _ _ r12); (have k15 := frozen_of_row _ _ 1 _ _ r12)) | skip)
          | (refine step_append_rd _ (by rfl) (.tmp 42) (.tmp 45) _ (by rfl) (w.heap.size + 2) 50 i0 _ 1 24 Try.underlying82 hi0 iz0 iz1 iz2 rfl (by omega) (.slice A' p c') p vs (by rfl) ((hown1.alloc _).alloc _) _ _ 1 1 [.slice A1 n c1] (by rfl) (rd_one (by (first | ((repeat (first | assumption | (refine heap_at _ _ _ ?_; (first | rfl | omega | (simp <;> omega)); done) | (refine heap_up _ _ _ ?_ ?_; (· (first | omega | (simp <;> omega)))) | (refine heap_gr hgrow1 _ ?_ ?_ ?_; (· (first | omega | (simp <;> omega))); (· (intro e; injection e with e; omega))))); done) | fail))) HL1.out g63' gby' (by first | omega | (simp <;> omega)) ?_; intro A'' c'' w2 hown2 hgrow2; (have hz2 := hgrow2.size); (try simp at hz2); first | ((refine have_of (p := w2.heap[wq.heap.size]? = some (.cells #[.slice none 0 0, .slice none 0 0] 84 (0, 0))) ?_ ?_; · (first | (refine heap_gr hgrow2 _ ?_ ?_ ?_; (· (first | omega | (simp <;> omega))); (· (first | (intro e; have := hup1 _ e.symm; omega) | (refine own_apartS (e' := 84) (cs := #[.slice none 0 0, .slice none 0 0]) (fr := (0, 0)) hown1 ?_ ?_; (· (first | ((repeat (first | assumption | (refine heap_at _ _ _ ?_; (first | rfl | omega | (simp <;> omega)); done) | (refine heap_up _ _ _ ?_ ?_; (· (first | omega | (simp <;> omega)))) | (refine heap_gr hgrow1 _ ?_ ?_ ?_; (· (first | omega | (simp <;> omega))); (· (intro e; injection e with e; omega))))); done) | fail)); (· decide)))); (first | ((repeat (first | assumption | (refine heap_at _ _ _ ?_; (first | rfl | omega | (simp <;> omega)); done) | (refine heap_up _ _ _ ?_ ?_; (· (first | omega | (simp <;> omega)))) | (refine heap_gr hgrow1 _ ?_ ?_ ?_; (· (first | omega | (simp <;> omega))); (· (intro e; injection e with e; omega))))); done) | fail); done) | fail)); intro r12; (have k12 := (cell_of_row _ _ 0 _ _ _ r12).trans (rfl : _ = some (Value.slice none 0 0))); (have k13 := (cell_of_row _ _ 1 _ _ _ r12).trans (rfl : _ = some (Value.slice none 0 0))); (have k14 := frozen_of_row _ _ 0 _ _ r12); (have k15 := frozen_of_row _ _ 1 _ _ r12)) | ((refine have_of (p := w2.heap[wq.heap.size + 1]? = some (.cells #[.slice none 0 0, .slice none 0 0] 84 (0, 0))) ?_ ?_; · (first | (refine heap_gr hgrow2 _ ?_ ?_ ?_; (· (first | omega | (simp <;> omega))); (· (first | (intro e; have := hup1 _ e.symm; omega) | (refine own_apartS (e' := 84) (cs := #[.slice none 0 0, .slice none 0 0]) (fr := (0, 0)) hown1 ?_ ?_; (· (first | ((repeat (first | assumption | (refine heap_at _ _ _ ?_; (first | rfl | omega | (simp <;> omega)); done) | (refine heap_up _ _ _ ?_ ?_; (· (first | omega | (simp <;> omega)))) | (refine heap_gr hgrow1 _ ?_ ?_ ?_; (· (first | omega | (simp <;> omega))); (· (intro e; injection e with e; omega))))); done) | fail)); (· decide)))); (first | ((repeat (first | assumption | (refine heap_at _ _ _ ?_; (first | rfl | omega | (simp <;> omega)); done) | (refine heap_up _ _ _ ?_ ?_; (· (first | omega | (simp <;> omega)))) | (refine heap_gr hgrow1 _ ?_ ?_ ?_; (· (first | omega | (simp <;> omega))); (· (intro e; injection e with e; omega))))); done) | fail); done) | fail)); intro r12; (have k12 := (cell_of_row _ _ 0 _ _ _ r12).trans (rfl : _ = some (Value.slice none 0 0))); (have k13 := (cell_of_row _ _ 1 _ _ _ r12).trans (rfl : _ = some (Value.slice none 0 0))); (have k14 := frozen_of_row _ _ 0 _ _ r12); (have k15 := frozen_of_row _ _ 1 _ _ r12)) | ((refine have_of (p := w2.heap[wq.heap.size + 2]? = some (.cells #[.slice none 0 0, .slice none 0 0] 84 (0, 0))) ?_ ?_; · (first | (refine heap_gr hgrow2 _ ?_ ?_ ?_; (· (first | omega | (simp <;> omega))); (· (first | (intro e; have := hup1 _ e.symm; omega) | (refine own_apartS (e' := 84) (cs := #[.slice none 0 0, .slice none 0 0]) (fr := (0, 0)) hown1 ?_ ?_; (· (first | ((repeat (first | assumption | (refine heap_at _ _ _ ?_; (first | rfl | omega | (simp <;> omega)); done) | (refine heap_up _ _ _ ?_ ?_; (· (first | omega | (simp <;> omega)))) | (refine heap_gr hgrow1 _ ?_ ?_ ?_; (· (first | omega | (simp <;> omega))); (· (intro e; injection e with e; omega))))); done) | fail)); (· decide)))); (first | ((repeat (first | assumption | (refine heap_at _ _ _ ?_; (first | rfl | omega | (simp <;> omega)); done) | (refine heap_up _ _ _ ?_ ?_; (· (first | omega | (simp <;> omega)))) | (refine heap_gr hgrow1 _ ?_ ?_ ?_; (· (first | omega | (simp <;> omega))); (· (intro e; injection e with e; omega))))); done) | fail); done) | fail)); intro r12; (have k12 := (cell_of_row _ _ 0 _ _ _ r12).trans (rfl : _ = some (Value.slice none 0 0))); (have k13 := (cell_of_row _ _ 1 _ _ _ r12).trans (rfl : _ = some (Value.slice none 0 0))); (have k14 := frozen_of_row _ _ 0 _ _ r12); (have k15 := frozen_of_row _ _ 1 _ _ r12)) | ((refine have_of (p := w2.heap[w1.heap.size]? = some (.cells #[.slice none 0 0, .slice none 0 0] 84 (0, 0))) ?_ ?_; · (first | (refine heap_gr hgrow2 _ ?_ ?_ ?_; (· (first | omega | (simp <;> omega))); (· (first | (intro e; have := hup1 _ e.symm; omega) | (refine own_apartS (e' := 84) (cs := #[.slice none 0 0, .slice none 0 0]) (fr := (0, 0)) hown1 ?_ ?_; (· (first | ((repeat (first | assumption | (refine heap_at _ _ _ ?_; (first | rfl | omega | (simp <;> omega)); done) | (refine heap_up _ _ _ ?_ ?_; (· (first | omega | (simp <;> omega)))) | (refine heap_gr hgrow1 _ ?_ ?_ ?_; (· (first | omega | (simp <;> omega))); (· (intro e; injection e with e; omega))))); done) | fail)); (· decide)))); (first | ((repeat (first | assumption | (refine heap_at _ _ _ ?_; (first | rfl | omega | (simp <;> omega)); done) | (refine heap_up _ _ _ ?_ ?_; (· (first | omega | (simp <;> omega)))) | (refine heap_gr hgrow1 _ ?_ ?_ ?_; (· (first | omega | (simp <;> omega))); (· (intro e; injection e with e; omega))))); done) | fail); done) | fail)); intro r12; (have k12 := (cell_of_row _ _ 0 _ _ _ r12).trans (rfl : _ = some (Value.slice none 0 0))); (have k13 := (cell_of_row _ _ 1 _ _ _ r12).trans (rfl : _ = some (Value.slice none 0 0))); (have k14 := frozen_of_row _ _ 0 _ _ r12); (have k15 := frozen_of_row _ _ 1 _ _ r12)) | ((refine have_of (p := w2.heap[w1.heap.size + 1]? = some (.cells #[.slice none 0 0, .slice none 0 0] 84 (0, 0))) ?_ ?_; · (first | (refine heap_gr hgrow2 _ ?_ ?_ ?_; (· (first | omega | (simp <;> omega))); (· (first | (intro e; have := hup1 _ e.symm; omega) | (refine own_apartS (e' := 84) (cs := #[.slice none 0 0, .slice none 0 0]) (fr := (0, 0)) hown1 ?_ ?_; (· (first | ((repeat (first | assumption | (refine heap_at _ _ _ ?_; (first | rfl | omega | (simp <;> omega)); done) | (refine heap_up _ _ _ ?_ ?_; (· (first | omega | (simp <;> omega)))) | (refine heap_gr hgrow1 _ ?_ ?_ ?_; (· (first | omega | (simp <;> omega))); (· (intro e; injection e with e; omega))))); done) | fail)); (· decide)))); (first | ((repeat (first | assumption | (refine heap_at _ _ _ ?_; (first | rfl | omega | (simp <;> omega)); done) | (refine heap_up _ _ _ ?_ ?_; (· (first | omega | (simp <;> omega)))) | (refine heap_gr hgrow1 _ ?_ ?_ ?_; (· (first | omega | (simp <;> omega))); (· (intro e; injection e with e; omega))))); done) | fail); done) | fail)); intro r12; (have k12 := (cell_of_row _ _ 0 _ _ _ r12).trans (rfl : _ = some (Value.slice none 0 0))); (have k13 := (cell_of_row _ _ 1 _ _ _ r12).trans (rfl : _ = some (Value.slice none 0 0))); (have k14 := frozen_of_row _ _ 0 _ _ r12); (have k15 := frozen_of_row _ _ 1 _ _ r12)) | skip)))
    all_goals
      rename_i hHeld
      go_wp2_with fail
      go_meet
      first
        | exact newPast_alloc hHeld.2.2 hown2 (by omega) Hrs Hrd Hpl Hvs
        | exact newPast_store hHeld.2.2 hown2 (by omega) r12 Hrs Hrd Hpl Hvs
  case rest =>
    obtain ⟨B, A', c', vs, rfl, hB, rB, hown, hvs, r0, r1, hb⟩ := hcut
    have Hown := Lib.hid hown
    have Hvs := Lib.hid hvs
    have HrB := Lib.hid rB
    have Hr0 := Lib.hid r0
    have Hr1 := Lib.hid r1
    have HB0 := Lib.hid hb
    clear rB hown hvs r0 r1 hb HR0 HR1 HBq g1 g2 hzq hi0 iz0 iz1 iz2
    obtain ⟨f, hf⟩ : ∃ f : Nat → Nat, f = fun z => if z = x ∨ z = y then min x y else z := ⟨_, rfl⟩
    have Hf := Lib.hid hf
    have hlen : cur.length = n := by have := Hrs.out.cur.1; rwa [nats_len] at this
    have Hlen := Lib.hid hlen
    clear hf hlen
    go_wp2
    go_loopw [13] (fun iv wr => ∃ (k : Nat) (A : Option Addr) (c : Nat), k ≤ n ∧ iv = .int .i64 k ∧ Hid (wr.heap[w.heap.size]? = some (.cells #[.slice A1 n c1, .slice A2 p c2] 84 (0, 0))) ∧ Hid (wr.heap[w.heap.size + 1]? = some (.cells #[.slice none 0 0, .slice none 0 0] 84 (0, 0))) ∧
      Hid (wr.heap[B]? = some (.cells #[.slice A k c, .slice A' (p + 1) c'] 84 (0, 0))) ∧ Hid (wr.ownsRow w.heap.size 3 1 (.slice A k c) k (nats ((cur.take k).map f))) ∧ Hid (wr.ownsRow w.heap.size 50 1 (.slice A' (p + 1) c') (p + 1) vs) ∧ Below w.heap.size w wr) (fun i _ => n - (intOf i).toNat)
    case atStart => exact ⟨0, none, 0, Nat.zero_le _, rfl, Hr0.out, Hr1.out, HrB.out, World.ownsRow_nil _ _ _ _, Hown.out, HB0.out⟩
    case round =>
      clear Hr0 Hr1 HrB Hown HB0
      obtain ⟨k, A, c, hk, rfl, r0, r1, rB, own, ownP, hb⟩ := hrel
      have hz := hb.size
      have hgs := (Array.getElem?_eq_some_iff.1 r1.out).1
      have hgB := (Array.getElem?_eq_some_iff.1 rB.out).1
      have c0 := (cell_of_row _ _ 0 _ _ _ r0.out).trans (rfl : _ = some (Value.slice A1 n c1))
      by_cases hlt : k < n
      · have cB := (cell_of_row _ _ 0 _ _ _ rB.out).trans (rfl : _ = some (Value.slice A k c))
        obtain ⟨z, hcz⟩ : ∃ z, cur[k]? = some z := ⟨_, List.getElem?_eq_getElem (by have := Hlen.out; omega)⟩
        obtain ⟨b1, off1, rfl, hb1, hc1⟩ := Hrs.out.cur.rd.pos (by omega)
        have hck := (hb.cell (p := ⟨b1, off1 + k, none⟩) (by show b1 < _; omega)).trans (hc1 k (.int .i64 (z : Nat)) (by unfold nats; rw [List.getElem?_map, hcz]; rfl))
        have hbl : b1 < wr.heap.size := by omega
        have h63 : k + 1 ≤ maxLen := by simp only [maxLen]; omega
        have hby : (k + 1) * 8 ≤ 140737488355328 := by omega
        have hws : w.heap.size < wr.heap.size := by omega
        have HN : Hid (∀ (mv : Int) (g1 cap1 : Nat) (w1 : World), mv = (f z : Nat) → w1.ownsRow w.heap.size 3 1 (.slice (some ⟨g1, 0, none⟩) (k + 1) cap1) (k + 1) (nats ((cur.take k).map f) ++ [.int .i64 mv]) → (wr.alloc (.cells #[.int .i64 mv] 3)).grownBy w1 (Value.slice A k c).ownBlock →
            w1.cell? ⟨B, 0, none⟩ = some (.slice A k c) ∧ w1.frozen? ⟨B, 0, none⟩ = false ∧ Hid ((w1.setCell ⟨B, 0, none⟩ (.slice (some ⟨g1, 0, none⟩) (k + 1) cap1)).heap[w.heap.size]? = some (.cells #[.slice (some ⟨b1, off1, none⟩) n c1, .slice A2 p c2] 84 (0, 0))) ∧
            Hid ((w1.setCell ⟨B, 0, none⟩ (.slice (some ⟨g1, 0, none⟩) (k + 1) cap1)).heap[w.heap.size + 1]? = some (.cells #[.slice none 0 0, .slice none 0 0] 84 (0, 0))) ∧
            Hid ((w1.setCell ⟨B, 0, none⟩ (.slice (some ⟨g1, 0, none⟩) (k + 1) cap1)).heap[B]? = some (.cells #[.slice (some ⟨g1, 0, none⟩) (k + 1) cap1, .slice A' (p + 1) c'] 84 (0, 0))) ∧
            Hid ((w1.setCell ⟨B, 0, none⟩ (.slice (some ⟨g1, 0, none⟩) (k + 1) cap1)).ownsRow w.heap.size 3 1 (.slice (some ⟨g1, 0, none⟩) (k + 1) cap1) (k + 1) (nats ((cur.take (k + 1)).map f))) ∧
            Hid ((w1.setCell ⟨B, 0, none⟩ (.slice (some ⟨g1, 0, none⟩) (k + 1) cap1)).ownsRow w.heap.size 50 1 (.slice A' (p + 1) c') (p + 1) vs) ∧ Hid (Below w.heap.size w (w1.setCell ⟨B, 0, none⟩ (.slice (some ⟨g1, 0, none⟩) (k + 1) cap1)))) := fun mv g1 cap1 w1 hmv h1 h2 => by
          subst hmv
          have hg := (World.grownBy_alloc wr (.cells #[.int .i64 (f z : Nat)] 3) (Value.slice A k c).ownBlock).trans h2
          have q0 := (hg.block w.heap.size (by omega) (own_apartS own.out r0.out (by decide))).trans r0.out
          have q1 := (hg.block (w.heap.size + 1) (by omega) (own_apartS own.out r1.out (by decide))).trans r1.out
          have qB := (hg.block B (by omega) (own_apartS own.out rB.out (by decide))).trans rB.out
          have hr : nats ((cur.take k).map f) ++ [.int .i64 (f z : Nat)] = nats ((cur.take (k + 1)).map f) := by rw [nats_snoc, List.take_add_one, hcz]; simp
          rw [hr] at h1
          refine ⟨(cell_of_row _ _ 0 _ _ _ qB).trans rfl, frozen_of_row _ _ _ _ _ qB, ?_, ?_, heap_setCell_same w1 _ 0 _ _ _ qB, own_setCell_other h1 (own_apartS h1 qB (by decide)) _, ?_, (hb.grown hg hz (fun q hq => (own.out.lt q hq).1)).setCell (by show _ ≤ B; omega) _⟩
          · show _ = _
            rw [heap_setCell_other _ _ _ _ (by show w.heap.size ≠ B; omega)]
            exact q0
          · show _ = _
            rw [heap_setCell_other _ _ _ _ (by show w.heap.size + 1 ≠ B; omega)]
            exact q1
          · have h3 := ownP.out.kept hg (own_types ownP.out own.out (by decide))
            exact own_setCell_other h3 (own_apartS h3 qB (by decide)) _
        have hcase : (z = x ∧ f z = min x y) ∨ (z ≠ x ∧ z = y ∧ f z = min x y) ∨ (z ≠ x ∧ z ≠ y ∧ f z = z) := by
          have hfz : f z = if z = x ∨ z = y then min x y else z := by rw [Hf.out]
          by_cases e1 : z = x
          · exact .inl ⟨e1, by rw [hfz, if_pos (.inl e1)]⟩
          · by_cases e2 : z = y
            · exact .inr (.inl ⟨e1, e2, by rw [hfz, if_pos (.inr e2)]⟩)
            · exact .inr (.inr ⟨e1, e2, by rw [hfz, if_neg (by omega)]⟩)
        clear r0 r1 rB hc1 hcz
        rcases hcase with ⟨e1, e2⟩ | ⟨e1, e2, e3⟩ | ⟨e1, e2, e3⟩
        case' inl => have g1 : ((z : Int) == (x : Int)) = true := by rw [beq_iff_eq]; omega
        case' inl => have g1' : (z == x) = true := by rw [beq_iff_eq]; omega
        case' inl => have hmv : Hid (min (x : Int) (y : Int) = (f z : Nat)) := by show _ = _; rw [e2]; omega
        case' inl => clear e1 e2
        case' inr.inl => have g1 : ((z : Int) == (x : Int)) = false := by rw [beq_eq_false_iff_ne]; omega
        case' inr.inl => have g1' : (z == x) = false := by rw [beq_eq_false_iff_ne]; omega
        case' inr.inl => have g2 : ((z : Int) == (y : Int)) = true := by rw [beq_iff_eq]; omega
        case' inr.inl => have g2' : (z == y) = true := by rw [beq_iff_eq]; omega
        case' inr.inl => have hmv : Hid (min (x : Int) (y : Int) = (f z : Nat)) := by show _ = _; rw [e3]; omega
        case' inr.inl => clear e1 e2 e3
        case' inr.inr => have g1 : ((z : Int) == (x : Int)) = false := by rw [beq_eq_false_iff_ne]; omega
        case' inr.inr => have g1' : (z == x) = false := by rw [beq_eq_false_iff_ne]; omega
        case' inr.inr => have g2 : ((z : Int) == (y : Int)) = false := by rw [beq_eq_false_iff_ne]; omega
        case' inr.inr => have g2' : (z == y) = false := by rw [beq_eq_false_iff_ne]; omega
        case' inr.inr => have hmv : Hid ((z : Int) = (f z : Nat)) := by show _ = _; rw [e3]
        case' inr.inr => clear e1 e2 e3
        all_goals
          go_wp2_with (at_builtin; refine wpList_append_lies _ rfl _ _ 50 rfl w.heap.size 3 i1 _ 1 8 Try.underlying50 hi1 jz0 jz1 jz2 rfl (by omega) (.slice A k c) k (nats ((cur.take k).map f)) rfl (own.out.alloc _) ⟨wr.heap.size, 0, none⟩ 1 1 [_] rfl rfl (cell_one_new _ _ _) (by simp [Value.oneCell']) (by omega) h63 hby (by simp; omega) (wr.heap.size + 1) (by simp) ?_; intro g1 cap1 w1 hown1 hgrow1 hat1 hlt1; obtain ⟨kc, kf, K0, K1, KB, KO, KP, KW⟩ := HN.out _ _ _ _ hmv.out hown1 hgrow1; clear hown1 hgrow1 hat1)
          go_light
          exact ⟨⟨k + 1, _, _, by omega, by go_num, K0.out, K1.out, KB.out, KO.out, KP.out, KW.out⟩, by simp [intOf]; omega⟩
      · obtain rfl : k = n := by omega
        have HF : Hid (RS (wr.setRow (w.heap.size + 1) #[.slice A k c, .slice A' (p + 1) c']) A k A' (p + 1) c' (cur.map f) (hs ++ [cur]) ∧ Below w.heap.size w (wr.setRow (w.heap.size + 1) #[.slice A k c, .slice A' (p + 1) c'])) := by
          have hbw := setRow_below hb (g := w.heap.size + 1) (by omega) #[.slice A k c, .slice A' (p + 1) c']
          have e : cur.take k = cur := List.take_of_length_le (by have := Hlen.out; omega)
          have ho := own.out
          rw [e] at ho
          refine ⟨⟨RdT.setRow_keep (RdT.own ho) r1.out (by decide) _, ⟨vs, RdT.setRow_keep (RdT.own ownP.out) r1.out (by decide) _, ?_, fun i v l h1 h2 => ?_⟩, ?_⟩, hbw⟩
          · obtain ⟨vs0, _, h2, _⟩ := Hrs.out.past
            simp [h2]
          · obtain ⟨A, c, e, hr⟩ := Hvs.out i v l h1 h2
            exact ⟨A, c, e, hr.below hbw⟩
          · rcases ownP.out.2 with ⟨_, h2⟩ | ⟨g', cap, cur', h1, _, _, h2, _⟩
            · omega
            · injection h1 with _ _ h1; omega
        rw [Hf.out] at HF
        clear own ownP hb
        go_wp2_with (first
          | (refine wpList_load_row rfl 84 (.tmp 12) rfl B rfl 84 #[.slice A k c, .slice A' (p + 1) c'] (0, 0) _ rB.out Try.underlying84 rfl sizeRS ?_)
          | (refine wpList_store_row rfl 84 (.tmp 6) (.tmp 77) rfl (w.heap.size + 1) #[.slice A k c, .slice A' (p + 1) c'] rfl rfl 84 #[.slice none 0 0, .slice none 0 0] r1.out sizeRS rfl (one_rs _ _ _ _ _ _) ?_))
        (try simp only [Exit.inBlock, Exit.then])
        refine bodyPost_ret (results_row_tmp2 rfl _ _ (w.heap.size + 1) 84 #[.slice A k c, .slice A' (p + 1) c'] (0, 0) _ rfl (setRow_heap _ _ _ _ _ _ r1.out) Try.underlying84 rfl sizeRS) rfl ?_
        exact ⟨_, _, _, _, rfl, HF.out.1, HF.out.2⟩
end Go.Proofs.Ytimgnmlcgnibhaa.Tok
