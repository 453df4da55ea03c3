/- A range over a function whose iterator keeps state of its own in rows of one type: what is asked of the loop's invariant is that it abides these rows' turns. -/
import Derived.RangeFuncNested
import Derived.RangeFuncBound
import Derived.RangeFuncCalls
import Derived.RangeFuncLeaves
import Derived.RangeFuncFrom
import Derived.Shelf.RegionOpen
import Derived.WalkKit
import Derived.OwnWalkIn
import Derived.TacticsInMore
import Derived.LoopNIn
import Derived.LoopIn
import Derived.Test.YtdffgkhlkbaecaaTreeOps
namespace Go.Proofs.Ytdffgkhlkbaecaa.Tok
open Go.RowKit Go.Proofs.Ytdffgkhlkbaecaa

/-- The row that turns, if any, lies from B on, and is no cells or cells of type T. -/
def Turns (T : TypeId) (B : Nat) (W : World) (row : Option Nat) : Prop := ∀ r, row = some r → B ≤ r ∧ ∃ o : Obj, W.heap[r]? = some o ∧ (o.isCells = false ∨ ∃ cs fr, o = .cells cs T fr)
def Abide {β : Type} (T : TypeId) (B : Nat) (I : β → World → Prop) : Prop := ∀ s W W' row, I s W → W.grownBy W' row → Turns T B W row → I s W'
theorem Turns.none (T : TypeId) (B : Nat) (W : World) : Turns T B W none := fun r e => by cases e
theorem Turns.mono {T : TypeId} {B B' : Nat} {W : World} {row : Option Nat} (h : Turns T B W row) (hb : B' ≤ B) : Turns T B' W row := fun r e => ⟨Nat.le_trans hb (h r e).1, (h r e).2⟩
theorem Turns.other {T : TypeId} {B l : Nat} {W : World} {o : Obj} (hb : B ≤ l) (hl : W.heap[l]? = some o) (ho : o.isCells = false) : Turns T B W (some l) := fun r e => by cases e; exact ⟨hb, o, hl, .inl ho⟩
section
variable {β : Type} {T : TypeId} {B : Nat} {I : β → World → Prop} {s : β} {W : World}
theorem Abide.alloc (h : Abide T B I) (hs : I s W) (o : Obj) : I s (W.alloc o) := h s W _ Option.none hs (World.grownBy_alloc W o Option.none) (Turns.none _ _ _)
theorem Abide.putObj (h : Abide T B I) (hs : I s W) {l : Nat} {o : Obj} (hb : B ≤ l) (hl : W.heap[l]? = some o) (ho : o.isCells = false) (o' : Obj) : I s (W.putObj l o') := h s W _ _ hs (grownBy_putObj' W l o') (Turns.other hb hl ho)
/-- The loop's own two blocks beside the invariant. -/
structure Held (I : β → World → Prop) (D : Nat) (r : Loop) (s : β) (W : World) : Prop where
  inv : I s W
  loop : W.heap[D + 1]? = some (.loop r)
  defs : W.heap[D]? = some (.deferred (some []))
theorem Held.abide {D : Nat} {r : Loop} (h : Abide T D I) : Abide T (D + 2) (Held I D r) := fun s W W' row hs hg ht => by
  have hl := (Array.getElem?_eq_some_iff.1 hs.loop).1
  have hne : ∀ k, k < D + 2 → some k ≠ row := fun k hk e => by have := (ht k e.symm).1; omega
  exact ⟨h s W W' row hs.inv hg (ht.mono (by omega)), (hg.block _ hl (hne _ (by omega))).trans hs.loop, (hg.block _ (by omega) (hne _ (by omega))).trans hs.defs⟩
theorem Held.put {D : Nat} {r r' : Loop} (hI : Abide T D I) (h : Held I D r s W) : Held I D r' s (W.putObj (D + 1) (.loop r')) :=
  ⟨hI.putObj h.inv (by omega) h.loop rfl _, World.putObj_heap_same (Array.getElem?_eq_some_iff.1 h.loop).1, (World.putObj_heap_other (by omega)).trans h.defs⟩
end
/-- An iterator that gives just xs to rounds that all go on. -/
def Gives {α : Type} (T : TypeId) (F : Fence) (n : Nat) (P : Program) (g : Nat) (lb : Array Value) (encs : α → Array Value) (Kp : World → World → Prop) (xs : List α) (w : World) : Prop :=
  ∀ (l : Nat) (J : List α → World → Prop) (W : World), Below w.heap.size w W → Abide T W.heap.size J →
    (∀ pre x W1, J pre W1 → pre ++ [x] <+: xs → YieldAt F (n - 1) P l (encs x) W1 fun e W' => e = .returned (.bool true) ∧ J (pre ++ [x]) W' ∧ Kp W1 W') →
    J [] W → CallsIn F n P g (#[.func (.yield l) #[] #[]] ++ lb) W fun e W' => (∃ v, e = .returned v) ∧ J xs W'
/-- How a round's body is left: it goes on. -/
def onPost {α : Type} (D : Nat) (Kp : World → World → Prop) (I : List α → World → Prop) (xs : List α) (W : World) (e : Exit) (_ : Act) (W' : World) : Prop := e = .normal ∧ KeepsFrom D W W' ∧ Kp W W' ∧ I xs W'
theorem wp_range2 {α : Type} {P : Program} {F : Fence} {n : Nat} {g : Operand} {ps : Array Tmp} {assign body : Code} {Q : Exit → Act → World → Prop} {a : Act} {w : World} (T : TypeId)
    (hro : F.round = none) (h1 : 1 ≤ n) {gf : Nat} {lb : Array Value} (hg : a.eval g = .func (.func gf) #[] lb) (hFg : F.fn gf) (eg : ∀ args w, (callFunc gf args).run P w = .ok (.enter gf args) w)
    {encs : α → Array Value} {Kp : World → World → Prop} {xs : List α} {w0 : World} (hseq : Gives T F (n - 1) P gf lb encs Kp xs w0)
    (hKt : ∀ {A B C : World}, Kp A B → Kp B C → Kp A C) (hKb : ∀ (W : World) (r r' : Loop), W.heap[w.heap.size + 1]? = some (.loop r) → Kp W (W.putObj (w.heap.size + 1) (.loop r')))
    (hb0 : Below w0.heap.size w0 w) (hps : ∀ x, (encs x).size = ps.size) (I : List α → World → Prop) (hI : Abide T w.heap.size I) (h0 : I [] w) (a₁ : α → Act)
    (hassign : ∀ (l : Nat) (x : α) (W : World) (K : Act → World → Prop), K (a₁ x) W →
      assign.wpIn (F.inRound l) (n - 1 - 1) P (Exit.then K (fun _ _ _ => False)) { tmps := (ps.zip (encs x)).foldl (fun t (p, v) => t.setIfInBounds p v) a.tmps, defers := [] } W)
    (hbody : ∀ (l : Nat) (pre : List α) (x : α) (W : World), I pre W → pre ++ [x] <+: xs → body.wpIn (F.inRound l) (n - 1 - 1) P (onPost w.heap.size Kp I (pre ++ [x]) W) (a₁ x) W)
    (hdone : ∀ (W : World), I xs W → W.heap[w.heap.size]? = some (.deferred (some [])) → Q .normal { a with defers := { target := .collected w.heap.size, args := #[] } :: a.defers } W) :
    (Code.rangeFunc g ps assign body).wpIn F n P Q a w := by
  refine wpIn_rangeFunc fun fn hfn => ?_
  rw [hro]
  obtain ⟨r0, hr0⟩ : ∃ r0 : Loop, r0 = { state := .ready, pending := none, fn := fn, tmps := a.tmps, params := ps, assign := assign, body := body, defers := w.heap.size } := ⟨_, rfl⟩
  refine ⟨w.heap.size + 1, [{ target := .collected w.heap.size, args := #[] }], (w.alloc (.deferred (some []))).alloc (.loop r0), { target := .fn (.func gf) lb, args := #[.func (.yield (w.heap.size + 1)) #[] #[]] }, (w.alloc (.deferred (some []))).alloc (.loop r0), gf,
    #[.func (.yield (w.heap.size + 1)) #[] #[]] ++ lb, (w.alloc (.deferred (some []))).alloc (.loop r0), ?_, ?_, ?_, ?_, fun _ => h1, ?_⟩
  · rw [hr0]
    exact run_enterLoop_outer _ _ _ _ _
  · simp only [resolve, hg]
    simp [go_sem]
  · intro f' hf'
    simp [Target.leads] at hf'
    subst hf'
    exact hFg
  · simp [invoke, go_sem, eg]
  have hst : r0.state = .ready := by rw [hr0]
  have hpe : r0.pending = none := by rw [hr0]
  have hY : r0.fn = fn ∧ r0.tmps = a.tmps ∧ r0.assign = assign ∧ r0.body = body ∧ r0.params = ps := by rw [hr0]; exact ⟨rfl, rfl, rfl, rfl, rfl⟩
  obtain ⟨e1, e2, e3, e4, e5⟩ := hY
  have hH : Held I w.heap.size r0 [] ((w.alloc (.deferred (some []))).alloc (.loop r0)) := by
    refine ⟨hI.alloc (hI.alloc h0 _) _, ?_, ?_⟩
    · have := heap_alloc_new (w.alloc (.deferred (some []))) (.loop r0)
      rwa [World.size_alloc] at this
    · exact (heap_alloc_old (w.alloc (.deferred (some []))) (.loop r0) w.heap.size (by simp)).trans (heap_alloc_new w _)
  have hb1 : Below w0.heap.size w0 ((w.alloc (.deferred (some []))).alloc (.loop r0)) := hb0.trans ((((Below.refl _ w).alloc (Nat.le_refl _) _).alloc (by simp) _).mono hb0.size)
  refine (hseq (w.heap.size + 1) (Held I w.heap.size r0) _ hb1 ?_ ?_ hH).mono ?_
  · have := Held.abide (r := r0) hI
    simpa using this
  · intro pre x W h hpre
    have hy := run_yield (P := P) (args := encs x) h.loop (by rw [e5]; exact hps x)
    rw [e1, e2, e3, e4, e5] at hy
    refine ⟨fn, _, assign, body, hy, roundIn_of_wpIn hfn (hassign _ x W _ ?_)⟩
    refine ⟨_, run_beginRound h.loop hst, wpIn_mono (hbody _ pre x _ (h.put (r' := { r0 with state := .busy }) hI).inv hpre) ?_⟩
    rintro e a3 W3 ⟨rfl, k1, k2, k3⟩
    have hp := h.put (r' := { r0 with state := .busy }) hI
    have hl3 := k1.same _ _ (by omega) hp.loop rfl
    have hd3 := k1.same _ _ (Nat.le_refl _) hp.defs rfl
    have hr := run_endRound (P := P) none hl3
    have er : ({ ({ r0 with state := .busy } : Loop) with state := .ready, pending := none } : Loop) = r0 := by rw [hr0]
    simp only [Option.isNone_none, if_true] at hr
    rw [er] at hr
    have hh := Held.put (r' := r0) hI ⟨k3, hl3, hd3⟩
    exact ⟨_, _, hr, rfl, hh, hKt (hKb W _ _ h.loop) (hKt k2 (hKb W3 _ _ hl3))⟩
  · rintro e W2 ⟨⟨v, rfl⟩, h⟩
    refine ⟨none, _, (run_endLoop h.loop (by rw [hst]; simp)).trans (congrArg (fun j => Result.ok j _) hpe), ?_⟩
    have hh := h.put (r' := { r0 with state := .exhausted }) hI
    have := hdone _ hh.inv hh.defs
    exact this
end Go.Proofs.Ytdffgkhlkbaecaa.Tok
