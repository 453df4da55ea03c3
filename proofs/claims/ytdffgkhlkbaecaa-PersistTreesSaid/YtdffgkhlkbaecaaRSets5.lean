/- The reference's sets: Union, where two sets become one. -/
import Derived.Test.YtdffgkhlkbaecaaRSets4
import Derived.Deep.RegionHeldLaw
namespace Go.Proofs.Ytdffgkhlkbaecaa.Tok
open Go.RowKit Go.Proofs.Ytdffgkhlkbaecaa

/-- What holds all through the region that makes the new sets. -/
structure SInv (w : World) (a b : Obj) (W : World) : Prop where
  r0 : W.heap[w.heap.size]? = some a
  r1 : W.heap[w.heap.size + 1]? = some b
  bel : Below w.heap.size w W
  sz : w.heap.size + 2 ≤ W.heap.size
section
variable {w W W1 : World} {a b : Obj}
theorem SInv.next (h : Hid (SInv w a b W)) (hb : Below W.heap.size W W1) : SInv w a b W1 := by
  have k := h.out
  have hs := hb.size
  exact ⟨(hb.block _ (by have := k.sz; omega)).trans k.r0, (hb.block _ (by have := k.sz; omega)).trans k.r1, k.bel.trans (hb.mono (by have := k.sz; omega)), by have := k.sz; omega⟩
theorem SInv.alloc (h : Hid (SInv w a b W)) (o : Obj) : SInv w a b (W.alloc o) := SInv.next h ((Below.refl _ _).alloc (Nat.le_refl _) _)
theorem SInv.grown {row : Option Nat} (h : Hid (SInv w a b W)) (hg : W.grownBy W1 row) (hr : ∀ q, row = some q → w.heap.size + 2 ≤ q) : SInv w a b W1 := by
  have k := h.out
  have hs := hg.size
  refine ⟨(hg.block _ (by have := k.sz; omega) ?_).trans k.r0, (hg.block _ (by have := k.sz; omega) ?_).trans k.r1, k.bel.grown hg (by have := k.sz; omega) (fun q hq => by have := hr q hq; omega), by have := k.sz; omega⟩
  · intro e; have := hr _ e.symm; omega
  · intro e; have := hr _ e.symm; omega
theorem SInv.setCell (h : Hid (SInv w a b W)) {g off : Nat} (hp : w.heap.size + 2 ≤ g) (v : Value) : SInv w a b (W.setCell ⟨g, off, none⟩ v) := by
  have k := h.out
  refine ⟨(heap_setCell_other _ _ _ _ (by show _ ≠ g; omega)).trans k.r0, (heap_setCell_other _ _ _ _ (by show _ ≠ g; omega)).trans k.r1, k.bel.setCell (by show _ ≤ g; omega) v, by simpa using k.sz⟩
theorem rd_inv {T : TypeId} {A : Option Addr} {n : Nat} {xs : List Value} (h : RdT w T A n xs) (k : Hid (SInv w a b W)) : Rd W W.heap.size 1 A n xs := (h.below k.out.bel).rd
theorem inv_base (k : Hid (SInv w a b W)) : w.heap.size ≤ W.heap.size := k.out.bel.size
theorem own_empty {base B : Nat} {T : TypeId} (h : W.heap[B]? = some (.cells #[] T (0, 0))) (hb : base ≤ B) : W.ownsRow base T 1 (.slice (some ⟨B, 0, none⟩) 0 0) 0 [] :=
  ⟨by simp, .inr ⟨B, 0, #[], rfl, hb, h, Nat.le_refl _, by decide, by simp, by simp⟩⟩
end
/-- append onto an empty slice of the call's own, at a step of a region that draws. -/
theorem step_append_rd0 {P : Program} (w : World) {ops : Array Oper} {o : Oper} {a : Act} {K : Act → World → Prop} {Q : Exit → Act → World → Prop} {E : Prop} (hgd : o.guard = none) (s x : Operand) (t : TypeId)
    (ho : o.op = .call { callee := .builtin .append, args := #[s, x], argTypes := #[t, t] })
    (base : Nat) (e : TypeId) (i : TypeInfo) (z : Value) (size bytes : Nat) (ht : P.underlying t = some (.slice e)) (hi : P.info? e = some i) (hz : i.zero = some z)
    (hsize : i.size = size) (hby : i.bytes = bytes) (hzs : z.cells.size = size) (hsz : 0 < size)
    (B39 : Nat) (hs : a.eval s = .slice (some ⟨B39, 0, none⟩) 0 0) (hown : w.ownsRow base e size (.slice (some ⟨B39, 0, none⟩) 0 0) 0 [])
    (B : Nat) (A : Option Addr) (m c : Nat) (news : List Value) (hx : a.eval x = .slice A m c) (hr : Rd w B size A m news) (h1 : ∀ u ∈ news, u.oneCell' = true)
    (h63 : m ≤ maxLen) (hbytes : m * bytes ≤ 140737488355328) (hbase : base ≤ w.heap.size)
    (h : ∀ A' c' w', w'.ownsRow base e size (.slice A' m c') m news → w.grownBy w' (some B39) → K (a.put o.dst (.slice A' m c')) w') :
    if Region.wanted o (yielded ops a.tmps) = true then Oper.wp P o a w K Q else E := by
  refine step_append_rd w hgd s x t ho base e i z size bytes ht hi hz hsize hby hzs hsz _ 0 [] hs hown B A m c news hx hr h1 (by rw [Nat.zero_add]; exact h63) (by rw [Nat.zero_add]; exact hbytes) hbase fun A' c' w' h2 h3 => ?_
  rw [Nat.zero_add] at h2 ⊢
  rw [List.nil_append] at h2
  exact h A' c' w' h2 h3
theorem RdT.setRow_keep {w : World} {T T' : TypeId} {A : Option Addr} {n g : Nat} {xs : List Value} {cs0 : Array Value} {fr0 : Nat × Nat} (h : RdT w T A n xs) (hg : w.heap[g]? = some (.cells cs0 T' fr0)) (hne : T ≠ T') (cs : Array Value) : RdT (w.setRow g cs) T A n xs := by
  refine ⟨h.1, fun hn => ?_⟩
  obtain ⟨b, off, cs1, fr, e, hh, hc⟩ := h.2 hn
  refine ⟨b, off, cs1, fr, e, (setRow_other _ _ _ _ ?_).trans hh, hc⟩
  rintro rfl
  rw [hh] at hg
  injection hg with hg
  injection hg with _ hg
  exact hne hg
theorem have_of {p q : Prop} (h : p) (k : p → q) : q := k h
theorem heap_at (W : World) (o : Obj) (B : Nat) (h : B = W.heap.size) : (W.alloc o).heap[B]? = some o := by
  subst h
  exact heap_alloc_new _ _
theorem heap_up (W : World) (o : Obj) (B : Nat) (h : B < W.heap.size) {x : Obj} (k : W.heap[B]? = some x) : (W.alloc o).heap[B]? = some x := (heap_alloc_old _ _ h).trans k
theorem heap_gr {W W1 : World} {row : Option Nat} (hg : W.grownBy W1 row) (B : Nat) (h : B < W.heap.size) (hne : some B ≠ row) {x : Obj} (k : W.heap[B]? = some x) : W1.heap[B]? = some x := (hg.block B h hne).trans k
theorem rd_one {W : World} {B : Nat} {v : Value} {T : TypeId} (h : W.heap[B]? = some (.cells #[v] T (0, 0))) : Rd W W.heap.size 1 (some ⟨B, 0, none⟩) 1 [v] := by
  refine ⟨rfl, fun _ => ⟨B, 0, rfl, (Array.getElem?_eq_some_iff.1 h).1, fun j u hu => ?_⟩⟩
  rw [cell_of_row _ _ _ _ _ _ h]
  rcases j with _ | j
  · simpa using hu
  · simp at hu
theorem SInv.swap {w W : World} {a b o : Obj} (h : Hid (SInv w a b (W.alloc o))) (o' : Obj) (hz : w.heap.size + 2 ≤ W.heap.size) : SInv w a b (W.alloc o') := by
  have k := h.out
  refine ⟨?_, ?_, ⟨k.bel.1, k.bel.2, k.bel.3, by simp <;> omega, fun i hi => ?_⟩, by simp <;> omega⟩
  · have := k.r0
    rw [heap_alloc_old _ _ (by omega)] at this ⊢
    exact this
  · have := k.r1
    rw [heap_alloc_old _ _ (by omega)] at this ⊢
    exact this
  · have := k.bel.block i hi
    rw [heap_alloc_old _ _ (by omega)] at this ⊢
    exact this
section
variable {w w2 : World} {A1 A2 A' : Option Addr} {n c1 p c2 c' : Nat} {cur : List Nat} {hs : List (List Nat)} {vs : List Value}
theorem past_snoc (Hrs : Hid (RS w A1 n A2 p c2 cur hs)) (Hrd : Hid (RdT w 36 A2 p vs)) (Hpl : Hid (hs.length = p)) (Hvs : Hid (∀ (i : Nat) (v : Value) (l : List Nat), vs[i]? = some v → hs[i]? = some l → ∃ A c, v = .slice A l.length c ∧ RdT w 3 A l.length (nats l))) :
    ∀ (i : Nat) (v : Value) (l : List Nat), (vs ++ [.slice A1 n c1])[i]? = some v → (hs ++ [cur])[i]? = some l → ∃ A c, v = .slice A l.length c ∧ RdT w 3 A l.length (nats l) := by
  intro i v l h1 h2
  have hp := Hpl.out
  have hv := Hrd.out.1
  rcases Nat.lt_or_ge i p with hi | hi
  · rw [List.getElem?_append_left (by omega)] at h1 h2
    obtain ⟨A, c, e, k⟩ := Hvs.out i v l h1 h2
    exact ⟨A, c, e, k⟩
  · rw [List.getElem?_append_right (by omega)] at h1 h2
    have e1 : i - vs.length = 0 := by
      have := (List.getElem?_eq_some_iff.1 h1).1
      simp at this
      omega
    have e2 : i - hs.length = 0 := by omega
    rw [e1] at h1
    rw [e2] at h2
    simp at h1 h2
    subst h1 h2
    have h3 := Hrs.out.cur
    have h4 : cur.length = n := by have := h3.1; rwa [nats_len] at this
    subst h4
    exact ⟨A1, c1, rfl, h3⟩
theorem own_base {w : World} {b b' e z n : Nat} {v : Value} {xs : List Value} (h : w.ownsRow b e z v n xs) (hb : b' ≤ b) : w.ownsRow b' e z v n xs := by
  refine ⟨h.1, ?_⟩
  rcases h.2 with h1 | ⟨g, cap, cur, h1, h2, h3⟩
  · exact .inl h1
  · exact .inr ⟨g, cap, cur, h1, by omega, h3⟩
end
end Go.Proofs.Ytdffgkhlkbaecaa.Tok
