/- Both rows side by side: the trees of the program and the lists of the reference, step by step. -/
import Derived.Test.YtdffgkhlkbaecaaAlike
import Derived.Test.YtdffgkhlkbaecaaLawDepth
namespace Go.Proofs.Ytdffgkhlkbaecaa.Tok
open Go.RowKit Go.Proofs.Ytdffgkhlkbaecaa
open Tr (Sorted CmpOk lows highs)

theorem infoSE : (Try.prog.info? 33).map (fun i => (i.zero, i.size, i.bytes)) = some (some (.slice none 0 0), 1, 24) := by kernel_rfl
/-- Where a step stands: a1, b1, c1: the new tree, the block of its literal, the row with it; a2, b2, c2: those of the list. -/
structure St (w : World) (q : Nat) (bx : Array Value) (v3 v4 : Value) (n : Nat) (ps : List (Option Addr)) (ts : List TrS) (vs : List Value) (T : TrS) (E : EntL) (a1 : Option (Option Addr)) (b1 : Option Nat) (c1 : Option Value) (a2 : Option Value) (b2 : Option Nat) (c2 : Option Value) (X : World) : Prop where
  bel : Below w.heap.size w X
  box : X.heap[q]? = some (.cells bx 31 (0, 0))
  trees : AllIs X ps ts
  lists : AllE X vs (ts.map Tr.ents)
  l0 : c1 = none → X.ownsRow w.heap.size 27 1 v3 n (ps.map Value.pointer)
  l1 : ∀ r, a1 = some r → Is Value.string 98 X r T
  l2 : ∀ B, b1 = some B → ∃ r, a1 = some r ∧ X.heap[B]? = some (.cells #[.pointer r] 27 (0, 0))
  l3 : ∀ v, c1 = some v → ∃ r, a1 = some r ∧ X.ownsRow w.heap.size 27 1 v (n + 1) (ps.map Value.pointer ++ [.pointer r])
  m0 : c2 = none → X.ownsRow w.heap.size 33 1 v4 n vs
  m1 : ∀ v, a2 = some v → OwE X v E
  m2 : ∀ B, b2 = some B → ∃ v, a2 = some v ∧ X.heap[B]? = some (.cells #[v] 33 (0, 0))
  m3 : ∀ v', c2 = some v' → ∃ v, a2 = some v ∧ X.ownsRow w.heap.size 33 1 v' (n + 1) (vs ++ [v])
section
variable {w X X' : World} {q n : Nat} {bx : Array Value} {v3 v4 : Value} {ps : List (Option Addr)} {ts : List TrS} {vs : List Value} {T : TrS} {E : EntL} {a1 : Option (Option Addr)} {b1 b2 : Option Nat} {c1 a2 c2 : Option Value}
theorem lt_of_row {W : World} {B : Nat} {o : Obj} (h : W.heap[B]? = some o) : B < W.heap.size := (Array.getElem?_eq_some_iff.1 h).1
theorem St.below (h : St w q bx v3 v4 n ps ts vs T E a1 b1 c1 a2 b2 c2 X) (hb : Below X.heap.size X X') : St w q bx v3 v4 n ps ts vs T E a1 b1 c1 a2 b2 c2 X' where
  bel := h.bel.trans (hb.mono h.bel.size)
  box := (hb.block _ (lt_of_row h.box)).trans h.box
  trees := ⟨h.trees.1, fun k p t a b => (h.trees.2 k p t a b).below hb⟩
  lists := ⟨h.lists.1, fun k v L a b => (h.lists.2 k v L a b).below hb⟩
  l0 := fun e => own_below (h.l0 e) hb
  l1 := fun r e => (h.l1 r e).below hb
  l2 := fun B e => by obtain ⟨r, a, b⟩ := h.l2 B e; exact ⟨r, a, (hb.block _ (lt_of_row b)).trans b⟩
  l3 := fun v e => by obtain ⟨r, a, b⟩ := h.l3 v e; exact ⟨r, a, own_below b hb⟩
  m0 := fun e => own_below (h.m0 e) hb
  m1 := fun v e => (h.m1 v e).below hb
  m2 := fun B e => by obtain ⟨v, a, b⟩ := h.m2 B e; exact ⟨v, a, (hb.block _ (lt_of_row b)).trans b⟩
  m3 := fun v' e => by obtain ⟨v, a, b⟩ := h.m3 v' e; exact ⟨v, a, own_below b hb⟩
theorem St.alloc (h : St w q bx v3 v4 n ps ts vs T E a1 b1 c1 a2 b2 c2 X) (o : Obj) : St w q bx v3 v4 n ps ts vs T E a1 b1 c1 a2 b2 c2 (X.alloc o) := h.below ((Below.refl _ _).alloc (Nat.le_refl _) o)
theorem row_keeps {W W' : World} {b e z m k : Nat} {v : Value} {xs : List Value} {cs : Array Value} {e' : TypeId} {fr : Nat × Nat} (ho : W.ownsRow b e z v m xs) (hg : W.grownBy W' v.ownBlock) (h : W.heap[k]? = some (.cells cs e' fr)) (hne : e ≠ e') : W'.heap[k]? = some (.cells cs e' fr) :=
  (hg.block k (lt_of_row h) (own_apartS ho h hne)).trans h
theorem own_keeps {W W' : World} {b b' e e' z z' m m' : Nat} {v v' : Value} {xs xs' : List Value} (ho : W.ownsRow b e z v m xs) (hg : W.grownBy W' v.ownBlock) (h : W.ownsRow b' e' z' v' m' xs') (hne : e' ≠ e) : W'.ownsRow b' e' z' v' m' xs' := h.kept hg (own_types h ho hne)
theorem owE_keeps {W W' : World} {b e z m : Nat} {v v' : Value} {xs : List Value} {L : EntL} (ho : W.ownsRow b e z v m xs) (hg : W.grownBy W' v.ownBlock) (h : OwE W v' L) (hne : 73 ≠ e) : OwE W' v' L := by
  obtain ⟨b, h⟩ := h
  exact ⟨b, own_keeps ho hg h hne⟩
/-- The tree's literal is made. -/
theorem St.lit1 {r : Option Addr} (h : Hid (St w q bx v3 v4 n ps ts vs T E (some r) none none a2 b2 c2 X)) : Hid (St w q bx v3 v4 n ps ts vs T E (some r) (some X.heap.size) none a2 b2 c2 (X.alloc (.cells #[.pointer r] 27))) :=
  { h.out.alloc (.cells #[.pointer r] 27) with l2 := fun B e => by injection e with e; subst e; exact ⟨r, rfl, heap_alloc_new _ _⟩ }
/-- The list's literal is made. -/
theorem St.lit2 {v : Value} (h : Hid (St w q bx v3 v4 n ps ts vs T E a1 b1 c1 (some v) none none X)) : Hid (St w q bx v3 v4 n ps ts vs T E a1 b1 c1 (some v) (some X.heap.size) none (X.alloc (.cells #[v] 33))) :=
  { h.out.alloc (.cells #[v] 33) with m2 := fun B e => by injection e with e; subst e; exact ⟨v, rfl, heap_alloc_new _ _⟩ }
/-- The row of trees has grown. -/
theorem St.grown1 {r : Option Addr} {v : Value} (h : St w q bx v3 v4 n ps ts vs T E (some r) b1 none a2 b2 c2 X) (hg : X.grownBy X' v3.ownBlock) (ho : X'.ownsRow w.heap.size 27 1 v (n + 1) (ps.map Value.pointer ++ [.pointer r])) : St w q bx v3 v4 n ps ts vs T E (some r) none (some v) a2 b2 c2 X' where
  bel := h.bel.grown hg h.bel.size fun k e => ((h.l0 rfl).lt k e).1
  box := row_keeps (h.l0 rfl) hg h.box (by decide)
  trees := ⟨h.trees.1, fun k p t a b => (h.trees.2 k p t a b).grown (h.l0 rfl) (by decide) hg⟩
  lists := ⟨h.lists.1, fun k v L a b => owE_keeps (h.l0 rfl) hg (h.lists.2 k v L a b) (by decide)⟩
  l0 := fun e => by cases e
  l1 := fun r e => (h.l1 r e).grown (h.l0 rfl) (by decide) hg
  l2 := fun B e => by cases e
  l3 := fun v' e => by injection e with e; subst e; exact ⟨r, rfl, ho⟩
  m0 := fun e => own_keeps (h.l0 rfl) hg (h.m0 e) (by decide)
  m1 := fun v e => owE_keeps (h.l0 rfl) hg (h.m1 v e) (by decide)
  m2 := fun B e => by obtain ⟨v, a, b⟩ := h.m2 B e; exact ⟨v, a, row_keeps (h.l0 rfl) hg b (by decide)⟩
  m3 := fun v' e => by obtain ⟨v, a, b⟩ := h.m3 v' e; exact ⟨v, a, own_keeps (h.l0 rfl) hg b (by decide)⟩
/-- The row of lists has grown. -/
theorem St.grown2 {v v' : Value} (h : St w q bx v3 v4 n ps ts vs T E a1 b1 c1 (some v) b2 none X) (hg : X.grownBy X' v4.ownBlock) (ho : X'.ownsRow w.heap.size 33 1 v' (n + 1) (vs ++ [v])) : St w q bx v3 v4 n ps ts vs T E a1 b1 c1 (some v) none (some v') X' where
  bel := h.bel.grown hg h.bel.size fun k e => ((h.m0 rfl).lt k e).1
  box := row_keeps (h.m0 rfl) hg h.box (by decide)
  trees := ⟨h.trees.1, fun k p t a b => (h.trees.2 k p t a b).grown (h.m0 rfl) (by decide) hg⟩
  lists := ⟨h.lists.1, fun k v L a b => owE_keeps (h.m0 rfl) hg (h.lists.2 k v L a b) (by decide)⟩
  l0 := fun e => own_keeps (h.m0 rfl) hg (h.l0 e) (by decide)
  l1 := fun r e => (h.l1 r e).grown (h.m0 rfl) (by decide) hg
  l2 := fun B e => by obtain ⟨r, a, b⟩ := h.l2 B e; exact ⟨r, a, row_keeps (h.m0 rfl) hg b (by decide)⟩
  l3 := fun v' e => by obtain ⟨r, a, b⟩ := h.l3 v' e; exact ⟨r, a, own_keeps (h.m0 rfl) hg b (by decide)⟩
  m0 := fun e => by cases e
  m1 := fun v e => owE_keeps (h.m0 rfl) hg (h.m1 v e) (by decide)
  m2 := fun B e => by cases e
  m3 := fun v'' e => by injection e with e; subst e; exact ⟨v, rfl, ho⟩
theorem own_long {W : World} {b e z m : Nat} {v : Value} {xs : List Value} (h : W.ownsRow b e z v m xs) : ∃ A c, v = .slice A m c := slice_form h
/-- append of the tree's literal, at a step of a region that draws. -/
theorem St.step27 {r : Option Addr} {B B' : Nat} (h : Hid (St w q bx v3 v4 n ps ts vs T E (some r) (some B) none a2 b2 c2 X)) (hn : n ≤ 1000)
    {ops : Array Oper} {o : Oper} {a : Act} {K : Act → World → Prop} {Q : Exit → Act → World → Prop} {G : Prop} (hgd : o.guard = none) (s x : Operand) (t : TypeId)
    (ho : o.op = .call { callee := .builtin .append, args := #[s, x], argTypes := #[t, t] }) (ht : Try.prog.underlying t = some (.slice 27))
    (hs : a.eval s = v3) (hx : a.eval x = .slice (some ⟨B', 0, none⟩) 1 1) (hB : B' = B)
    (hK : ∀ A' c' X', Hid (St w q bx v3 v4 n ps ts vs T E (some r) none (some (.slice A' (n + 1) c')) a2 b2 c2 X') → K (a.put o.dst (.slice A' (n + 1) c')) X') :
    if Region.wanted o (yielded ops a.tmps) = true then Oper.wp Try.prog o a X K Q else G := by
  subst hB
  obtain ⟨i0, hi0, iz0, iz1, iz2⟩ := info_parts infoTree
  obtain ⟨r', e, hrow⟩ := h.out.l2 B' rfl
  injection e with e
  subst e
  refine step_append_rd X hgd s x t ho w.heap.size 27 i0 _ 1 8 ht hi0 iz0 iz1 iz2 rfl (by decide) v3 n (ps.map Value.pointer) hs (h.out.l0 rfl) X.heap.size _ 1 1 [.pointer r] hx (rd_one hrow) (one_ptr1 _) (by simp only [maxLen]; omega) (by omega) h.out.bel.size ?_
  intro A' c' X' h1 h2
  exact hK A' c' X' (h.out.grown1 h2 h1)
/-- append of the list's literal, at a step of a region that draws. -/
theorem St.step33 {v : Value} {B B' : Nat} (h : Hid (St w q bx v3 v4 n ps ts vs T E a1 b1 c1 (some v) (some B) none X)) (hn : n ≤ 1000)
    {ops : Array Oper} {o : Oper} {a : Act} {K : Act → World → Prop} {Q : Exit → Act → World → Prop} {G : Prop} (hgd : o.guard = none) (s x : Operand) (t : TypeId)
    (ho : o.op = .call { callee := .builtin .append, args := #[s, x], argTypes := #[t, t] }) (ht : Try.prog.underlying t = some (.slice 33))
    (hs : a.eval s = v4) (hx : a.eval x = .slice (some ⟨B', 0, none⟩) 1 1) (hB : B' = B)
    (hK : ∀ A' c' X', Hid (St w q bx v3 v4 n ps ts vs T E a1 b1 c1 (some v) none (some (.slice A' (n + 1) c')) X') → K (a.put o.dst (.slice A' (n + 1) c')) X') :
    if Region.wanted o (yielded ops a.tmps) = true then Oper.wp Try.prog o a X K Q else G := by
  subst hB
  obtain ⟨i0, hi0, iz0, iz1, iz2⟩ := info_parts infoSE
  obtain ⟨v', e, hrow⟩ := h.out.m2 B' rfl
  injection e with e
  subst e
  have hone : ∀ u ∈ [v], u.oneCell' = true := by
    intro u hu
    simp only [List.mem_cons, List.not_mem_nil, or_false] at hu
    subst hu
    obtain ⟨A, c, rfl, _⟩ := (h.out.m1 u rfl).rd
    rfl
  refine step_append_rd X hgd s x t ho w.heap.size 33 i0 _ 1 24 ht hi0 iz0 iz1 iz2 rfl (by decide) v4 n vs hs (h.out.m0 rfl) X.heap.size _ 1 1 [v] hx (rd_one hrow) hone (by simp only [maxLen]; omega) (by omega) h.out.bel.size ?_
  intro A' c' X' h1 h2
  exact hK A' c' X' (h.out.grown2 h2 h1)
/-- The call of step. -/
theorem St.step25 (h : Hid (St w q bx v3 v4 n ps ts vs T E none none none a2 b2 c2 X)) (x : OpT) (hT : stepV ts x = T) (hn0 : 0 < n) (hn : n ≤ 1000) (hz : ∀ t ∈ ts, t.size ≤ 500) (hx : OpOk x) :
    Calls Try.prog 7 #[v3, .agg #[.int .u8 x.kind, .int .u8 x.tree, .int .u8 x.other, .string x.key, .int .i64 x.val]] X fun e X' => ∃ r, e = .returned (.agg #[.pointer r]) ∧ Hid (St w q bx v3 v4 n ps ts vs T E (some r) none none a2 b2 c2 X') := by
  obtain ⟨A, c, rfl⟩ := own_long (h.out.l0 rfl)
  subst hT
  refine (step_any A n c ps ts x X hn0 hn (Rd.own (h.out.l0 rfl)) h.out.trees (fun t ht => by have := hz t ht; omega) hx.1 hx.2.1 hx.2.2).mono ?_
  rintro e X' ⟨r, h1, h2, h3⟩
  exact ⟨r, h1, { h.out.below h3 with l1 := fun r' e => (by injection e with e; subst e; exact h2), l2 := fun B e => (by cases e), l3 := fun v e => (by cases e) }⟩
/-- The call of model. -/
theorem St.step31 (h : Hid (St w q bx v3 v4 n ps ts vs T E a1 b1 c1 none none none X)) (x : OpT) (hE : stepE ts x = E) (hn0 : 0 < n) (hn : n ≤ 1000) (hz : ∀ t ∈ ts, t.size ≤ 500) (hs : ∀ t ∈ ts, Sorted cmpS t.ents) (hx : OpOk x) :
    Calls Try.prog 8 #[v4, .agg #[.int .u8 x.kind, .int .u8 x.tree, .int .u8 x.other, .string x.key, .int .i64 x.val]] X fun e X' => ∃ v, e = .returned v ∧ Hid (St w q bx v3 v4 n ps ts vs T E a1 b1 c1 (some v) none none X') := by
  obtain ⟨A, c, rfl⟩ := own_long (h.out.m0 rfl)
  subst hE
  refine (model_any A n c vs ts x X hn0 (Rd.own (h.out.m0 rfl)) h.out.lists hz hs hn hx.1 hx.2.1 hx.2.2).mono ?_
  rintro e X' ⟨v, h1, h2, h3⟩
  exact ⟨v, h1, { h.out.below h3.out with m1 := fun v' e => (by injection e with e; subst e; exact h2.out), m2 := fun B e => (by cases e), m3 := fun v e => (by cases e) }⟩
theorem St.cells {k0 k1 k2 k3 k4 : Value} (h : Hid (St w q #[k0, k1, k2, k3, k4] v3 v4 n ps ts vs T E a1 b1 c1 a2 b2 c2 X)) : X.cell? ⟨q, 0, none⟩ = some k0 ∧ X.cell? ⟨q, 1, none⟩ = some k1 ∧ X.cell? ⟨q, 2, none⟩ = some k2 ∧ X.cell? ⟨q, 3, none⟩ = some k3 ∧ X.cell? ⟨q, 4, none⟩ = some k4 :=
  ⟨(cell_of_row _ _ 0 _ _ _ h.out.box).trans rfl, (cell_of_row _ _ 1 _ _ _ h.out.box).trans rfl, (cell_of_row _ _ 2 _ _ _ h.out.box).trans rfl, (cell_of_row _ _ 3 _ _ _ h.out.box).trans rfl, (cell_of_row _ _ 4 _ _ _ h.out.box).trans rfl⟩
end
end Go.Proofs.Ytdffgkhlkbaecaa.Tok
