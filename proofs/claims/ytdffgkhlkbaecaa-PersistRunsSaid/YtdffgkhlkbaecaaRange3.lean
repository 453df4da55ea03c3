/- A range over a function whose iterator keeps state of its own in rows of one type, and whose rounds may leave the loop. -/
import Derived.Test.YtdffgkhlkbaecaaRange2
namespace Go.Proofs.Ytdffgkhlkbaecaa.Tok
open Go.RowKit Go.Proofs.Ytdffgkhlkbaecaa

/-- An iterator that gives xs, one by one, until a round stops it. -/
def GivesS {α : Type} (T : TypeId) (F : Fence) (n : Nat) (P : Program) (g : Nat) (lb : Array Value) (encs : α → Array Value) (Kp : World → World → Prop) (xs : List α) (w : World) : Prop :=
  ∀ (l : Nat) (J Jx : List α → World → Prop) (W : World), Below w.heap.size w W → Abide T W.heap.size J → Abide T W.heap.size Jx →
    (∀ pre x W1, J pre W1 → pre ++ [x] <+: xs → YieldAt F (n - 1) P l (encs x) W1 fun e W' => (e = .returned (.bool true) ∧ J (pre ++ [x]) W' ∧ Kp W1 W') ∨ (e = .returned (.bool false) ∧ Jx (pre ++ [x]) W' ∧ Kp W1 W')) →
    J [] W → CallsIn F n P g (#[.func (.yield l) #[] #[]] ++ lb) W fun e W' => (∃ v, e = .returned v) ∧ (J xs W' ∨ ∃ pre, pre <+: xs ∧ Jx pre W')
/-- How a round's body is left: it goes on, or leaves the loop by a jump. -/
def onPostS {α : Type} (D : Nat) (Kp : World → World → Prop) (I : List α → World → Prop) (Ix : Code → List α → World → Prop) (xs : List α) (W : World) (e : Exit) (_ : Act) (W' : World) : Prop :=
  (KeepsFrom D W W' ∧ Kp W W') ∧ ((e = .normal ∧ I xs W') ∨ (e = .ret ∧ Ix .ret xs W') ∨ (∃ id, e = .exit id ∧ Ix (.exit id) xs W'))
theorem wp_range3 {α : Type} {P : Program} {F : Fence} {n : Nat} {g : Operand} {ps : Array Tmp} {assign body : Code} {Q : Exit → Act → World → Prop} {a : Act} {w : World} (T : TypeId)
    (hro : F.round = none) (h1 : 1 ≤ n) {gf : Nat} {lb : Array Value} (hg : a.eval g = .func (.func gf) #[] lb) (hFg : F.fn gf) (eg : ∀ args w, (callFunc gf args).run P w = .ok (.enter gf args) w)
    {encs : α → Array Value} {Kp : World → World → Prop} {xs : List α} {w0 : World} (hseq : GivesS T F (n - 1) P gf lb encs Kp xs w0)
    (hKt : ∀ {A B C : World}, Kp A B → Kp B C → Kp A C) (hKb : ∀ (W : World) (r r' : Loop), W.heap[w.heap.size + 1]? = some (.loop r) → Kp W (W.putObj (w.heap.size + 1) (.loop r')))
    (hb0 : Below w0.heap.size w0 w) (hps : ∀ x, (encs x).size = ps.size) (I : List α → World → Prop) (Ix : Code → List α → World → Prop) (hI : Abide T w.heap.size I) (hIx : ∀ c, Abide T w.heap.size (Ix c)) (h0 : I [] w) (a₁ : α → Act)
    (hassign : ∀ (l : Nat) (x : α) (W : World) (K : Act → World → Prop), K (a₁ x) W →
      assign.wpIn (F.inRound l) (n - 1 - 1) P (Exit.then K (fun _ _ _ => False)) { tmps := (ps.zip (encs x)).foldl (fun t (p, v) => t.setIfInBounds p v) a.tmps, defers := [] } W)
    (hbody : ∀ (l : Nat) (pre : List α) (x : α) (W : World), I pre W → pre ++ [x] <+: xs → body.wpIn (F.inRound l) (n - 1 - 1) P (onPostS w.heap.size Kp I Ix (pre ++ [x]) W) (a₁ x) W)
    (hdone : ∀ (W : World), I xs W → W.heap[w.heap.size]? = some (.deferred (some [])) → Q .normal { a with defers := { target := .collected w.heap.size, args := #[] } :: a.defers } W)
    (hstop : ∀ (c : Code) (pre : List α) (W : World), pre <+: xs → Ix c pre W → W.heap[w.heap.size]? = some (.deferred (some [])) → c.wpIn F n P Q { a with defers := { target := .collected w.heap.size, args := #[] } :: a.defers } W) :
    (Code.rangeFunc g ps assign body).wpIn F n P Q a w := by
  refine wpIn_rangeFunc fun fn hfn => ?_
  rw [hro]
  obtain ⟨rec, hrec⟩ : ∃ rec : LoopState → Option Code → Loop, rec = fun st pe => { state := st, pending := pe, fn := fn, tmps := a.tmps, params := ps, assign := assign, body := body, defers := w.heap.size } := ⟨_, rfl⟩
  refine ⟨w.heap.size + 1, [{ target := .collected w.heap.size, args := #[] }], (w.alloc (.deferred (some []))).alloc (.loop (rec .ready none)), { target := .fn (.func gf) lb, args := #[.func (.yield (w.heap.size + 1)) #[] #[]] }, (w.alloc (.deferred (some []))).alloc (.loop (rec .ready none)), gf,
    #[.func (.yield (w.heap.size + 1)) #[] #[]] ++ lb, (w.alloc (.deferred (some []))).alloc (.loop (rec .ready none)), ?_, ?_, ?_, ?_, fun _ => h1, ?_⟩
  · rw [hrec]
    exact run_enterLoop_outer _ _ _ _ _
  · simp only [resolve, hg]
    simp [go_sem]
  · intro f' hf'
    simp [Target.leads] at hf'
    subst hf'
    exact hFg
  · simp [invoke, go_sem, eg]
  have hH : Held I w.heap.size (rec .ready none) [] ((w.alloc (.deferred (some []))).alloc (.loop (rec .ready none))) := by
    refine ⟨hI.alloc (hI.alloc h0 _) _, ?_, ?_⟩
    · have := heap_alloc_new (w.alloc (.deferred (some []))) (.loop (rec .ready none))
      rwa [World.size_alloc] at this
    · exact (heap_alloc_old (w.alloc (.deferred (some []))) (.loop (rec .ready none)) w.heap.size (by simp)).trans (heap_alloc_new w _)
  have hb1 : Below w0.heap.size w0 ((w.alloc (.deferred (some []))).alloc (.loop (rec .ready none))) := hb0.trans ((((Below.refl _ w).alloc (Nat.le_refl _) _).alloc (by simp) _).mono hb0.size)
  have hsz : ((w.alloc (.deferred (some []))).alloc (.loop (rec .ready none))).heap.size = w.heap.size + 2 := by simp
  refine (hseq (w.heap.size + 1) (Held I w.heap.size (rec .ready none)) (fun pre W => ∃ c, Held (Ix c) w.heap.size (rec .done (some c)) pre W) _ hb1 ?_ ?_ ?_ hH).mono ?_
  · rw [hsz]
    exact Held.abide hI
  · rw [hsz]
    rintro s A B row ⟨c, hs⟩ hg' ht
    exact ⟨c, Held.abide (hIx c) s A B row hs hg' ht⟩
  · intro pre x W h hpre
    have hy := run_yield (P := P) (args := encs x) h.loop (by rw [hrec]; exact hps x)
    rw [hrec] at hy
    refine ⟨fn, _, assign, body, hy, roundIn_of_wpIn hfn (hassign _ x W _ ?_)⟩
    have hp := h.put (r' := { rec .ready none with state := .busy }) hI
    refine ⟨_, run_beginRound h.loop (by rw [hrec]), wpIn_mono (hbody _ pre x _ hp.inv hpre) ?_⟩
    have fin : ∀ (jump : Option Code) (W3 : World), KeepsFrom w.heap.size (W.putObj (w.heap.size + 1) (.loop { rec .ready none with state := .busy })) W3 →
        (Instr.endRound (w.heap.size + 1) jump).run P W3 = .ok (.bool jump.isNone) (W3.putObj (w.heap.size + 1) (.loop (rec (if jump.isNone then .ready else .done) jump))) ∧
        W3.heap[w.heap.size + 1]? = some (.loop { rec .ready none with state := .busy }) ∧ W3.heap[w.heap.size]? = some (.deferred (some [])) := fun jump W3 hk3 => by
      have hl3 := hk3.same _ _ (by omega) hp.loop rfl
      have hd3 := hk3.same _ _ (Nat.le_refl _) hp.defs rfl
      have := run_endRound (P := P) jump hl3
      rw [hrec] at this ⊢
      exact ⟨this, by rw [hrec] at hl3; exact hl3, hd3⟩
    rintro e a3 W3 ⟨⟨k1, k2⟩, ⟨rfl, k3⟩ | ⟨rfl, k3⟩ | ⟨id, rfl, k3⟩⟩
    · obtain ⟨hr, hl3, hd3⟩ := fin none W3 k1
      have hh := Held.put (r' := rec .ready none) hI ⟨k3, hl3, hd3⟩
      exact ⟨_, _, hr, .inl ⟨rfl, hh, hKt (hKb W _ _ h.loop) (hKt k2 (hKb W3 _ _ hl3))⟩⟩
    · obtain ⟨hr, hl3, hd3⟩ := fin (some .ret) W3 k1
      exact ⟨_, _, hr, .inr ⟨rfl, ⟨.ret, Held.put (r' := rec .done (some .ret)) (hIx _) ⟨k3, hl3, hd3⟩⟩, hKt (hKb W _ _ h.loop) (hKt k2 (hKb W3 _ _ hl3))⟩⟩
    · obtain ⟨hr, hl3, hd3⟩ := fin (some (.exit id)) W3 k1
      exact ⟨_, _, hr, .inr ⟨rfl, ⟨.exit id, Held.put (r' := rec .done (some (.exit id))) (hIx _) ⟨k3, hl3, hd3⟩⟩, hKt (hKb W _ _ h.loop) (hKt k2 (hKb W3 _ _ hl3))⟩⟩
  · rintro e W2 ⟨⟨v, rfl⟩, h | ⟨pre, hpre, c, h⟩⟩
    · refine ⟨none, _, by have := run_endLoop (P := P) h.loop (by rw [hrec]; simp); rw [hrec] at this; exact this, ?_⟩
      have hh := h.put (r' := { rec .ready none with state := .exhausted }) hI
      have := hdone _ hh.inv hh.defs
      rw [hrec] at this
      exact this
    · refine ⟨some c, _, by have := run_endLoop (P := P) h.loop (by rw [hrec]; simp); rw [hrec] at this; exact this, ?_⟩
      have hh := h.put (r' := { rec .done (some c) with state := .exhausted }) (hIx c)
      have := hstop c pre _ hpre hh.inv hh.defs
      rw [hrec] at this
      exact this
/-- The same, where the loop's assignments are told as what is put where. -/
theorem wp_range3u {α : Type} {P : Program} {F : Fence} {n : Nat} {g : Operand} {ps : Array Tmp} {assign body : Code} {Q : Exit → Act → World → Prop} {a : Act} {w : World} (T : TypeId)
    (hro : F.round = none) (h1 : 1 ≤ n) {gf : Nat} {lb : Array Value} (hg : a.eval g = .func (.func gf) #[] lb) (hFg : F.fn gf) (eg : ∀ args w, (callFunc gf args).run P w = .ok (.enter gf args) w)
    {encs : α → Array Value} {Kp : World → World → Prop} {xs : List α} {w0 : World} (hseq : GivesS T F (n - 1) P gf lb encs Kp xs w0)
    (hKt : ∀ {A B C : World}, Kp A B → Kp B C → Kp A C) (hKb : ∀ (W : World) (r r' : Loop), W.heap[w.heap.size + 1]? = some (.loop r) → Kp W (W.putObj (w.heap.size + 1) (.loop r')))
    (hb0 : Below w0.heap.size w0 w) (hps : ∀ x, (encs x).size = ps.size) (I : List α → World → Prop) (Ix : Code → List α → World → Prop) (hI : Abide T w.heap.size I) (hIx : ∀ c, Abide T w.heap.size (Ix c)) (h0 : I [] w) (ups : α → List (Tmp × Value))
    (hassign : ∀ (l : Nat) (x : α) (W : World) (K : Act → World → Prop), K { tmps := (ups x).foldl (fun t y => t.setIfInBounds y.1 y.2) a.tmps, defers := [] } W →
      assign.wpIn (F.inRound l) (n - 1 - 1) P (Exit.then K (fun _ _ _ => False)) { tmps := (ps.zip (encs x)).foldl (fun t (p, v) => t.setIfInBounds p v) a.tmps, defers := [] } W)
    (hbody : ∀ (l : Nat) (pre : List α) (x : α) (W : World), I pre W → pre ++ [x] <+: xs → body.wpIn (F.inRound l) (n - 1 - 1) P (onPostS w.heap.size Kp I Ix (pre ++ [x]) W) { tmps := (ups x).foldl (fun t y => t.setIfInBounds y.1 y.2) a.tmps, defers := [] } W)
    (hdone : ∀ (W : World), I xs W → W.heap[w.heap.size]? = some (.deferred (some [])) → Q .normal { a with defers := { target := .collected w.heap.size, args := #[] } :: a.defers } W)
    (hstop : ∀ (c : Code) (pre : List α) (W : World), pre <+: xs → Ix c pre W → W.heap[w.heap.size]? = some (.deferred (some [])) → c.wpIn F n P Q { a with defers := { target := .collected w.heap.size, args := #[] } :: a.defers } W) :
    (Code.rangeFunc g ps assign body).wpIn F n P Q a w :=
  wp_range3 T hro h1 hg hFg eg hseq hKt hKb hb0 hps I Ix hI hIx h0 _ hassign hbody hdone hstop
end Go.Proofs.Ytdffgkhlkbaecaa.Tok
