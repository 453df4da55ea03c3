/- The law of runs: every way through it returns true. -/
import Derived.Test.YtdffgkhlkbaecaaIAll
import Derived.Test.YtdffgkhlkbaecaaIRunMath
import Derived.Test.YtdffgkhlkbaecaaLawDepth
import Derived.Maps.OwnIn
import Derived.Deep.RegionHeldLaw
namespace Go.Proofs.Ytdffgkhlkbaecaa.Tok
open Go.RowKit Go.Proofs.Ytdffgkhlkbaecaa Go.Maps
open Tr (Sorted CmpOk lows highs)
attribute [local go_sem] Oper.semAt_some

theorem results_boxB {P : Program} {fn : Func} {p : Tmp} {ty : TypeId} (h : fn.results = #[.cell p ty]) (tmps : Array Value) (w : World) (g : Nat) (x : Bool) (hp : tmps.getD p undef = .pointer (some ⟨g, 0, none⟩)) {t : TypeId} (hg : w.heap[g]? = some (.cells #[.bool x] t (0, 0))) (hu : P.underlying ty = some .bool := by kernel_rfl) :
    (results fn tmps).run P w = .ok (.bool x) w := by
  have hp' : tmps[p]?.getD undef = .pointer (some ⟨g, 0, none⟩) := by simpa using hp
  have hc : w.cell? ⟨g, 0, none⟩ = some (.bool x) := (cell_of_row _ _ 0 _ _ _ hg).trans rfl
  simp [results, h, hp', asAddr, go_sem, isAgg, run_underlying hu, hc]
theorem keyIntR : Keyed Try.prog 3 := int_keyed Try.underlying3
theorem grown_setRow (W : World) (g : Nat) (cs : Array Value) : W.grownBy (W.setRow g cs) (some g) := ⟨rfl, rfl, rfl, by simp, fun i _ hne => setRow_other _ _ _ _ (fun e => hne (by rw [e]))⟩
/-- Between two rounds of the first loop. -/
structure RunI (w : World) (most k : Nat) (p : Option Addr) (T : TrI) (D : DataW Unit) (wr : World) : Prop where
  r3 : wr.heap[w.heap.size]? = some (.cells #[.int .u8 most] 5 (0, 0))
  r4 : wr.heap[w.heap.size + 1]? = some (.cells #[.bool false] 4 (0, 0))
  r5 : wr.heap[w.heap.size + 1 + 1]? = some (.cells #[.pointer p] 39 (0, 0))
  r6 : wr.heap[w.heap.size + 1 + 1 + 1 + 1]? = some (.cells #[.map (some (w.heap.size + 1 + 1 + 1))] 40 (0, 0))
  tree : Is (Value.int .i64) 86 wr p T
  fine : FineI k T
  map : wr.ownsMap Try.prog 3 (plainElem Try.prog 3) (w.heap.size + 1 + 1 + 1) k D
  says : MapIs D T.ents
  bel : Below w.heap.size w wr
  rng : ∀ e ∈ T.ents, -9223372036854775808 ≤ e.1 ∧ e.1 ≤ 9223372036854775807
theorem map_block {W : World} {b n : Nat} {D : DataW Unit} (h : W.ownsMap Try.prog 3 (plainElem Try.prog 3) b n D) : ∃ es clock, W.heap[b]? = some (.map es clock) := by
  obtain ⟨es, clock, hb, _⟩ := h
  exact ⟨es, clock, hb⟩
theorem map_below {W W' : World} {b n : Nat} {D : DataW Unit} (h : W.ownsMap Try.prog 3 (plainElem Try.prog 3) b n D) (hb : Below W.heap.size W W') : W'.ownsMap Try.prog 3 (plainElem Try.prog 3) b n D := by
  obtain ⟨es, clock, h1, h2⟩ := h
  exact ⟨es, clock, (hb.block _ (Array.getElem?_eq_some_iff.1 h1).1).trans h1, h2⟩
theorem is_keeps {W W' : World} {b : Nat} {p : Option Addr} {T : TrI} (h : Is (Value.int .i64) 86 W p T) (hg : W.grownBy W' (some b)) {es : Array MapEntry} {clock : Nat} (hb : W.heap[b]? = some (.map es clock)) : Is (Value.int .i64) 86 W' p T :=
  (IsT.held h fun i cs fr hlt hc => hg.block i hlt (by intro e; injection e with e; subst e; rw [hb] at hc; cases hc)).more hg.size
section
variable {w wr W : World} {most k : Nat} {p : Option Addr} {T : TrI} {D : DataW Unit}
theorem RunI.below (h : RunI w most k p T D wr) (hb : Below wr.heap.size wr W) : RunI w most k p T D W :=
  ⟨(hb.block _ (Array.getElem?_eq_some_iff.1 h.r3).1).trans h.r3, (hb.block _ (Array.getElem?_eq_some_iff.1 h.r4).1).trans h.r4, (hb.block _ (Array.getElem?_eq_some_iff.1 h.r5).1).trans h.r5, (hb.block _ (Array.getElem?_eq_some_iff.1 h.r6).1).trans h.r6, h.tree.below hb, h.fine, map_below h.map hb, h.says, h.bel.trans (hb.mono h.bel.size), h.rng⟩
/-- The tree is put, the map is told. -/
theorem RunI.next (h : RunI w most k p T D wr) (hb : Below wr.heap.size wr W) {r : Option Addr} {n : Int} (hn : -9223372036854775808 ≤ n ∧ n ≤ 9223372036854775807) (hr : Is (Value.int .i64) 86 W r (putI T n k)) {W' : World}
    (hg : (W.setRow (w.heap.size + 1 + 1) #[.pointer r]).grownBy W' (some (w.heap.size + 1 + 1 + 1))) (hm : W'.ownsMap Try.prog 3 (plainElem Try.prog 3) (w.heap.size + 1 + 1 + 1) (k + 1) (D.put (.int .i64 n) (.lit (.int .i64 k)))) :
    RunI w most (k + 1) r (putI T n k) (D.put (.int .i64 n) (.lit (.int .i64 k))) W' := by
  have h' := h.below hb
  obtain ⟨es, clock, hmb⟩ := map_block h'.map
  have hz := (Array.getElem?_eq_some_iff.1 h'.r6).1
  have hmb' : (W.setRow (w.heap.size + 1 + 1) #[.pointer r]).heap[w.heap.size + 1 + 1 + 1]? = some (.map es clock) := (setRow_other _ _ _ _ (by omega)).trans hmb
  have row : ∀ {i : Nat} {o : Obj}, i ≠ w.heap.size + 1 + 1 → i ≠ w.heap.size + 1 + 1 + 1 → W.heap[i]? = some o → W'.heap[i]? = some o := fun {i o} h1 h2 h3 => by
    have h4 : (W.setRow (w.heap.size + 1 + 1) #[.pointer r]).heap[i]? = some o := (setRow_other _ _ _ _ h1).trans h3
    exact (hg.block i (Array.getElem?_eq_some_iff.1 h4).1 (by intro e; injection e with e; exact h2 e)).trans h4
  refine ⟨row (by omega) (by omega) h'.r3, row (by omega) (by omega) h'.r4, ?_, row (by omega) (by omega) h'.r6, ?_, h.fine.put n k, hm, ?_, ?_, ?_⟩
  · have h4 : (W.setRow (w.heap.size + 1 + 1) #[.pointer r]).heap[w.heap.size + 1 + 1]? = some (.cells #[.pointer r] 39 (0, 0)) := setRow_heap _ _ _ _ _ _ h'.r5
    exact (hg.block _ (Array.getElem?_eq_some_iff.1 h4).1 (by intro e; injection e with e; omega)).trans h4
  · exact is_keeps (hr.setRowI h'.r5 _) hg hmb'
  · rw [putI_ents T n k h.fine.srt]
    exact h.says.put h.fine.srt n k
  · exact (setRow_below h'.bel (by omega) _).grown hg (by simp; omega) fun i e => by injection e with e; omega
  · rw [putI_ents T n k h.fine.srt]
    intro e he
    rcases List.mem_append.1 he with h1 | h1
    · exact h.rng e (Tr.mem_lows.1 h1).1
    · rcases List.mem_cons.1 h1 with rfl | h1
      · exact hn
      · exact h.rng e (Tr.mem_highs.1 h1).1
end
theorem rows5 (w : World) (a b c d e : Obj) :
    (((((w.alloc a).alloc b).alloc c).alloc d).alloc e).heap[w.heap.size]? = some a ∧ (((((w.alloc a).alloc b).alloc c).alloc d).alloc e).heap[w.heap.size + 1]? = some b ∧ (((((w.alloc a).alloc b).alloc c).alloc d).alloc e).heap[w.heap.size + 1 + 1]? = some c ∧
    (((((w.alloc a).alloc b).alloc c).alloc d).alloc e).heap[w.heap.size + 1 + 1 + 1]? = some d ∧ (((((w.alloc a).alloc b).alloc c).alloc d).alloc e).heap[w.heap.size + 1 + 1 + 1 + 1]? = some e ∧ Below w.heap.size w (((((w.alloc a).alloc b).alloc c).alloc d).alloc e) := by
  have h1 : ∀ (W : World) (o o' : Obj) (k : Nat), W.heap[k]? = some o → (W.alloc o').heap[k]? = some o := fun W o o' k h => (heap_alloc_old _ _ _ (Array.getElem?_eq_some_iff.1 h).1).trans h
  have h2 : ∀ (W : World) (o : Obj) (k : Nat), k = W.heap.size → (W.alloc o).heap[k]? = some o := fun W o k h => by rw [h]; exact heap_alloc_new _ _
  refine ⟨h1 _ _ _ _ (h1 _ _ _ _ (h1 _ _ _ _ (h1 _ _ _ _ (h2 _ _ _ rfl)))), h1 _ _ _ _ (h1 _ _ _ _ (h1 _ _ _ _ (h2 _ _ _ (by simp)))), h1 _ _ _ _ (h1 _ _ _ _ (h2 _ _ _ (by simp))), h1 _ _ _ _ (h2 _ _ _ (by simp)), h2 _ _ _ (by simp), ?_⟩
  exact (((((Below.refl _ _).alloc (Nat.le_refl _) _).alloc (by simp) _).alloc (by simp; omega) _).alloc (by simp; omega) _).alloc (by simp; omega) _
def lastK (l : List (Int × Int)) : Int := (l.getLast?.map (·.1)).getD 0
theorem eq_nilF (g b : Nat) (w : World) : (binOp .eql 42 (.func (.func g) #[] #[.pointer (some ⟨b, 0, none⟩)]) .nilFunc).run Try.prog w = .ok (.bool false) w := by kernel_rfl
theorem all_inI (n : Nat) (p : Option Addr) (w : World) : CallsIn Fence.wide n Try.prog 11 #[.agg #[.pointer p]] w fun e w' => e = .returned (.func (.func 39) #[] #[.pointer (some ⟨w.heap.size, 0, none⟩)]) ∧ w' = w.alloc (.cells #[.pointer p] 39) := by
  refine callsIn_of_wp Try.func11 rfl trivial ?_ rfl
  simp only [Try.ntmps11, List.size_toArray, List.length_cons, List.length_nil, Nat.reduceAdd, Nat.reduceSub, Array.replicate_succ, Array.replicate_zero, List.push_toArray, List.append_toArray, List.nil_append, List.cons_append]
  gi_wp2
  go_ret
  exact ⟨rfl, rfl⟩
theorem all_givesI (n : Nat) (hn : 3 ≤ n) (p : Option Addr) (t : TrI) (w w1 w2 : World) (hI : Is (Value.int .i64) 86 w p t) (hts : t.size ≤ 1000000) (hb : Below w.heap.size w w1)
    (hb2 : Below (w1.alloc (.cells #[.pointer p] 39)).heap.size (w1.alloc (.cells #[.pointer p] 39)) w2) :
    GivesS 37 Fence.wide n Try.prog 39 #[.pointer (some ⟨w1.heap.size, 0, none⟩)] encEI (KpAI w.heap.size (w2.heap.size + 2)) t.ents w2 := by
  intro l J Jx W hW hJ hJx hY h0
  have hs := hW.size
  have hs2 := hb2.size
  have hs1 := hb.size
  simp at hs2
  have hWW : Below (w1.alloc (.cells #[.pointer p] 39)).heap.size (w1.alloc (.cells #[.pointer p] 39)) W := hb2.trans (hW.mono (by simp; omega))
  have hW1 : Below w.heap.size w W := (hb.alloc hb.size _).trans (hWW.mono (by simp; omega))
  refine all1_inI n hn l w1.heap.size (w2.heap.size + 2) p t J Jx w W hI hts hW1 hJ hJx (by omega) (by omega) ((hWW.cell (p := ⟨w1.heap.size, 0, none⟩) (by simp)).trans (by rw [cell_of_row _ _ _ _ _ _ (heap_alloc_new w1 _)]; rfl)) ?_ h0
  intro pre x W1 h1 h2
  exact (hY pre x W1 h1 h2).mono fun e W' h => by
    rcases h with ⟨a, b, c⟩ | ⟨a, b, c⟩
    · exact ⟨.inl ⟨a, b⟩, c⟩
    · exact ⟨.inr ⟨a, b⟩, c⟩
/-- A guarded look-up of an int, in a fence. -/
theorem wpListIn_lookup_g {H : Type} {P : Program} {F : Fence} {nF : Nat} (w : World) {ops : Array Oper} {rest : List Oper} {o : Oper} {a : Act} {Q : Exit → Act → World → Prop}
    (hw : Region.wanted o (yielded ops a.tmps) = true) (m x : Operand) (t : TypeId) (hop : o.op = Op.lookup t m x false)
    (k e : TypeId) (q : IntKind) (K : Keyed P k) (ht : P.underlying t = some (.map k e)) (he : P.underlying e = some (.int q)) (hz : (zeroValue e).run P w = .ok (.int q 0) w) (b n : Nat) (D : DataW H)
    (hm : a.eval m = .map (some b)) (hown : w.ownsMap P k (plainElem P e) b n D) (key : Value) (kl : Lit) (hx : a.eval x = key) (hkey : keyOf P k key = some kl) (c : Int) (hat : D.atKey kl (.lit (.int q 0)) = .lit (.int q c))
    (hK : wpListIn F nF P ops Q rest (a.put o.dst (.int q c)) w) :
    wpListIn F nF P ops Q (o :: rest) a w := by
  refine wpListIn_step fun K' hK' => ?_
  rw [if_pos hw]
  obtain ⟨c', hrun, hat', hwc⟩ := hown.lookup_int K ht he hz hkey
  rw [hat] at hat'
  injection hat' with hat'
  injection hat' with _ hat'
  subst hat'
  unfold Oper.wpIn
  refine ⟨by simp [Oper.about, hop], ?_⟩
  rw [Oper.semAt_plain F _ _ (by rw [hop]; intro c hc'; cases hc')]
  simp [execOp, hop, hm, hx, hrun, Result.andThen]
  exact hK' _ _ hK
/-- len of a map, at a step of a region that draws. -/
theorem step_len_own {H : Type} {P : Program} {w : World} {ops : Array Oper} {o : Oper} {a : Act} {K : Act → World → Prop} {Q : Exit → Act → World → Prop} {E : Prop} (hw : Region.wanted o (yielded ops a.tmps) = true) (m : Operand) (t : TypeId)
    (hop : o.op = Op.call { callee := Callee.builtin Builtin.len, args := #[m], argTypes := #[t] }) (k e : TypeId) (ht : P.underlying t = some (.map k e)) (R : Value → Option (DataW H × List MemPlace)) (b n : Nat) (D : DataW H) (hm : a.eval m = .map (some b)) (hown : w.ownsMap P k R b n D)
    (hK : K (a.put o.dst (.int .i64 (Maps.size D))) w) : if Region.wanted o (yielded ops a.tmps) = true then Oper.wp P o a w K Q else E := by
  rw [if_pos hw]
  unfold Oper.wp
  simp [execOp, hop, resolve, invoke, builtin, hm, hown.len ht o.type, Result.andThen]
  exact hK
theorem zeroIntR (w : World) : (zeroValue 3).run Try.prog w = .ok (.int .i64 0) w := by kernel_rfl
section
variable {W : World} {g n₀ D B : Nat} {v u : Value}
theorem int_other (_ : W.heap[g]? = some (.cells #[v] 3 (0, 0))) (u : Value) {i : Nat} {o : Obj} (hi : i ≠ g) (h : W.heap[i]? = some o) : (W.setCell ⟨g, 0, none⟩ u).heap[i]? = some o := (heap_setCell_other _ _ _ _ hi).trans h
theorem int_keep (hg : W.heap[g]? = some (.cells #[v] 3 (0, 0))) (hn : n₀ ≤ g) (u : Value) : KeepsFrom B W (W.setCell ⟨g, 0, none⟩ u) ∧ KpAI n₀ D W (W.setCell ⟨g, 0, none⟩ u) := by
  have hne : ∀ (i : Nat) (o : Obj), W.heap[i]? = some o → (∀ cs fr, o ≠ .cells cs 3 fr) → i ≠ g := fun i o hi ho e => by
    subst e
    rw [hg] at hi
    injection hi with hi
    exact ho _ _ hi.symm
  have hc : ∀ (i : Nat) (cs : Array Value) (T : TypeId) (fr : Nat × Nat), T ≠ 3 → W.heap[i]? = some (.cells cs T fr) → (W.setCell ⟨g, 0, none⟩ u).heap[i]? = some (.cells cs T fr) := fun i cs T fr hT hi =>
    int_other hg u (hne i _ hi fun cs' fr' e => by injection e with _ e; exact hT e) hi
  have ho : ∀ (k : Nat) (o : Obj), W.heap[k]? = some o → o.isCells = false → (W.setCell ⟨g, 0, none⟩ u).heap[k]? = some o := fun k o hk hc =>
    int_other hg u (hne k _ hk fun cs fr e => by rw [e] at hc; cases hc) hk
  have hb : Below n₀ W (W.setCell ⟨g, 0, none⟩ u) := (Below.refl n₀ W).setCell (by exact hn) u
  have hs : W.heap.size ≤ (W.setCell ⟨g, 0, none⟩ u).heap.size := by simp
  exact ⟨⟨hs, fun k o _ hk hc' => ho k o hk hc'⟩, ⟨⟨hb, fun i cs fr hi => hc i cs _ fr (by decide) hi⟩, fun i cs fr hi => hc i cs _ fr (by decide) hi, fun k o _ hk hc' => ho k o hk hc', hs⟩⟩
end
/-- What a round of the range writes. -/
theorem round_writes {W : World} {s D n₀ B : Nat} {a b : Value} (h10 : W.heap[s + 1]? = some (.cells #[a] 3 (0, 0))) (h11 : W.heap[s + 1 + 1]? = some (.cells #[b] 3 (0, 0))) (hn : n₀ ≤ s) (u v : Value) :
    (KeepsFrom B W ((W.setCell ⟨s + 1 + 1, 0, none⟩ u).setCell ⟨s + 1, 0, none⟩ v) ∧ KpAI n₀ D W ((W.setCell ⟨s + 1 + 1, 0, none⟩ u).setCell ⟨s + 1, 0, none⟩ v)) ∧
    ((W.setCell ⟨s + 1 + 1, 0, none⟩ u).setCell ⟨s + 1, 0, none⟩ v).heap[s + 1]? = some (.cells #[v] 3 (0, 0)) ∧ ((W.setCell ⟨s + 1 + 1, 0, none⟩ u).setCell ⟨s + 1, 0, none⟩ v).heap[s + 1 + 1]? = some (.cells #[u] 3 (0, 0)) := by
  have k1 : (W.setCell ⟨s + 1 + 1, 0, none⟩ u).heap[s + 1]? = some (.cells #[a] 3 (0, 0)) := int_other h11 u (by omega) h10
  have k2 : (W.setCell ⟨s + 1 + 1, 0, none⟩ u).heap[s + 1 + 1]? = some (.cells #[u] 3 (0, 0)) := heap_setCell_same W _ 0 _ _ _ h11
  obtain ⟨p1, p2⟩ := int_keep (n₀ := n₀) (D := D) (B := B) h11 (by omega) u
  obtain ⟨q1, q2⟩ := int_keep (n₀ := n₀) (D := D) (B := B) k1 (by omega) v
  exact ⟨⟨⟨Nat.le_trans p1.size q1.size, fun k o hk h hc => q1.same k o hk (p1.same k o hk h hc) hc⟩, p2.trans q2⟩, heap_setCell_same _ _ 0 _ _ _ k1, int_other k1 v (by omega) k2⟩
theorem lastK_snoc (l : List (Int × Int)) (x : Int × Int) : lastK (l ++ [x]) = x.1 := by simp [lastK]
theorem lastK_lt {l xs : List (Int × Int)} {x : Int × Int} (hs : Sorted cmpSI xs) (hp : l ++ [x] <+: xs) (h0 : 0 < l.length) : lastK l < x.1 := by
  obtain ⟨r, rfl⟩ := hp
  unfold Sorted at hs
  rw [List.pairwise_append, List.pairwise_append] at hs
  obtain ⟨y, hy⟩ : ∃ y, l.getLast? = some y := by
    cases hl : l.getLast? with
    | none => rw [List.getLast?_eq_none_iff] at hl; subst hl; simp at h0
    | some y => exact ⟨y, rfl⟩
  have := hs.1.2.2 y (List.mem_of_getLast? hy) x (by simp)
  unfold lastK
  rw [hy]
  show y.1 < x.1
  rcases cmpS_isI y.1 x.1 with ⟨h, _⟩ | ⟨_, e⟩ | ⟨_, e⟩ <;> omega
theorem rows2 (w : World) (a b c : Obj) : (((w.alloc a).alloc b).alloc c).heap[w.heap.size + 1]? = some b ∧ (((w.alloc a).alloc b).alloc c).heap[w.heap.size + 1 + 1]? = some c ∧ (((w.alloc a).alloc b).alloc c).heap.size = w.heap.size + 3 ∧ Below (w.alloc a).heap.size (w.alloc a) (((w.alloc a).alloc b).alloc c) ∧ Below w.heap.size w (((w.alloc a).alloc b).alloc c) := by
  refine ⟨(heap_alloc_old _ _ _ (by simp)).trans (ptr_alloc_2 w a b), ?_, by simp, ((Below.refl _ _).alloc (Nat.le_refl _) _).alloc (by simp) _, (((Below.refl _ _).alloc (Nat.le_refl _) _).alloc (by simp) _).alloc (by simp; omega) _⟩
  have := heap_alloc_new ((w.alloc a).alloc b) c
  rwa [show ((w.alloc a).alloc b).heap.size = w.heap.size + 1 + 1 by simp] at this
set_option maxHeartbeats 3200000 in
set_option maxRecDepth 8000 in
theorem law_runs (A : Option Addr) (m hc : Nat) (ls : List Int) (most : Nat) (w : World) (hmo : most ≤ 255) (hwf : ∀ x ∈ ls, (Lit.int .i64 x).wf = true) (hh : Rd w w.heap.size 1 A m (ls.map (Value.int .i64))) :
    Calls Try.prog 4 #[.slice A m hc, .int .u8 most] w fun e w' => e = .returned (.bool true) ∧ Below w.heap.size w w' := by
  have hlen : ls.length = m := by have := hh.len; simpa using this
  have Hlen := Lib.hid hlen
  have Hh := Lib.hid hh
  have Hwf := Lib.hid hwf
  clear hlen hwf hh
  have hmm := @run_makeMap Try.prog
  refine (callsIn_wide (n := 8)).1 (callsIn_of_wp_marks Try.func4 rfl trivial (wpIn_wide.2 ?_) rfl)
  simp only [Try.ntmps4, List.size_toArray, List.length_cons, List.length_nil, Nat.reduceAdd, Nat.reduceSub, Array.replicate_succ, Array.replicate_zero, List.push_toArray, List.append_toArray, List.nil_append, List.cons_append]
  by_cases hlong : 2000 < m
  · have g1 : decide ((2000 : Int) < (m : Int)) = true := decide_eq_true (by omega)
    have g2 : decide (2000 < m) = true := decide_eq_true hlong
    go_wp2_with fail
    refine (awake12_any _).mono ?_
    rintro e w2 ⟨rfl, hb2⟩
    have q4 : w2.heap[w.heap.size + 1]? = some (.cells #[.bool false] 4 (0, 0)) := (hb2.block (w.heap.size + 1) (by simp)).trans (ptr_alloc_2 w _ _)
    have HB : Hid (Below w.heap.size w (w2.setCell ⟨w.heap.size + 1, 0, none⟩ (.bool true))) := ((((Below.refl _ w).alloc (Nat.le_refl _) _).alloc (by simp) _).trans (hb2.mono (by simp <;> omega))).setCell (by show _ ≤ _ + 1; omega) _
    have k1 := (cell_of_row _ _ 0 _ _ _ q4).trans (rfl : _ = some (Value.bool false))
    have k2 := frozen_of_row _ _ 0 _ _ q4
    have k3 := (Array.getElem?_eq_some_iff.1 q4).1
    have Hq : Hid ((w2.setCell ⟨w.heap.size + 1, 0, none⟩ (.bool true)).heap[w.heap.size + 1]? = some (.cells #[.bool true] 4 (0, 0))) := heap_setCell_same w2 _ 0 _ _ _ q4
    clear q4 hb2
    go_wp2
    (try simp only [Exit.inBlock, Exit.then])
    refine ⟨.bool true, results_boxB rfl _ _ _ _ rfl Hq.out, rfl, HB.out⟩
  · have g1 : decide ((2000 : Int) < (m : Int)) = false := decide_eq_false (by omega)
    have g2 : decide (2000 < m) = false := decide_eq_false hlong
    go_wp2
    go_loopw [22] (fun iv wr => ∃ (k : Nat) (p : Option Addr) (T : TrI) (D : DataW Unit), k ≤ m ∧ iv = .int .i64 k ∧ Hid (RunI w most k p T D wr)) (fun iv _ => m - (intOf iv).toNat)
    case atStart =>
      refine ⟨0, none, .nil, .map [], Nat.zero_le _, rfl, ?_⟩
      obtain ⟨s1, s2, s3, s4, s5, s6⟩ := rows5 w (.cells #[.int .u8 most] 5) (.cells #[.bool false] 4) (.cells #[.pointer none] 39) (.map #[] 0) (.cells #[.map (some (w.heap.size + 1 + 1 + 1))] 40)
      refine ⟨s1, s2, s3, s5, rfl, FineI.none, ?_, MapIs.none, s6, fun e he => by simp [Tr.ents] at he⟩
      have hm := World.ownsMap_made (H := Unit) (((w.alloc (.cells #[.int .u8 most] 5)).alloc (.cells #[.bool false] 4)).alloc (.cells #[.pointer none] 39)) Try.prog 3 (plainElem Try.prog 3)
      rw [show (((w.alloc (.cells #[.int .u8 most] 5)).alloc (.cells #[.bool false] 4)).alloc (.cells #[.pointer none] 39)).heap.size = w.heap.size + 1 + 1 + 1 by simp] at hm
      exact hm.alloc _
    case round =>
      obtain ⟨k, p, T, D, hk, rfl, hrel⟩ := hrel
      by_cases hlt : k < m
      · obtain ⟨b, off, rfl, hbb, hcc⟩ := Hh.out.pos (by omega)
        have hk1 : k < ls.length := by have := Hlen.out; omega
        have hcell := (hrel.out.bel.cell (p := ⟨b, off + k, none⟩) hbb).trans (hcc k (.int .i64 ls[k]) (by rw [List.getElem?_map, List.getElem?_eq_getElem hk1]; rfl))
        have hw := Hwf.out _ (List.getElem_mem hk1)
        generalize ls[k] = n at hcell hw
        have hw' : -9223372036854775808 ≤ n ∧ n ≤ 9223372036854775807 := by simpa [Lit.wf, IntKind.min, IntKind.max, IntKind.signed, IntKind.bits] using hw
        have Hw := Lib.hid hw'
        have hbl : b < wr.heap.size := by have := hrel.out.bel.size; omega
        have c5 := (cell_of_row _ _ 0 _ _ _ hrel.out.r5).trans (rfl : _ = some (Value.pointer p))
        have l5 := (Array.getElem?_eq_some_iff.1 hrel.out.r5).1
        have HP := Lib.hid (putT_anyI p T n k wr hrel.out.tree (by have := hrel.out.fine.le; omega))
        have Hkey := Lib.hid (show keyOf Try.prog 3 (.int .i64 n) = some (.int .i64 n) from keyOf_int_mk Try.underlying3 hw)
        have HX : Hid (∀ (r : Option Addr) (W : World), Below wr.heap.size wr W → W.heap[w.heap.size + 1 + 1]? = some (.cells #[.pointer p] 39 (0, 0)) ∧
            ((W.setRow (w.heap.size + 1 + 1) #[.pointer r]).cell? ⟨w.heap.size + 1 + 1 + 1 + 1, 0, none⟩ = some (.map (some (w.heap.size + 1 + 1 + 1)))) ∧ w.heap.size + 1 + 1 + 1 + 1 < W.heap.size ∧ Hid ((W.setRow (w.heap.size + 1 + 1) #[.pointer r]).ownsMap Try.prog 3 (plainElem Try.prog 3) (w.heap.size + 1 + 1 + 1) k D)) := fun r W hb => by
          have h' := hrel.out.below hb
          refine ⟨h'.r5, (cell_of_row _ _ 0 _ _ _ ((setRow_other _ _ _ _ (by omega)).trans h'.r6)).trans rfl, (Array.getElem?_eq_some_iff.1 h'.r6).1, ?_⟩
          exact h'.map.kept (grown_setRow _ _ _) (by intro e; injection e with e; omega)
        clear hcc hw hw'
        go_wp2_with fail
        refine (HP.out).mono ?_
        rintro e w1 ⟨r, rfl, hI, hb1⟩
        obtain ⟨x5, x6, x7, x8⟩ := HX.out r w1 hb1
        have HI : Hid (Is (Value.int .i64) 86 w1 r (putI T n k)) := hI
        have Hb1 := Lib.hid hb1
        have hkm : k < maxLen := by simp only [maxLen]; omega
        clear c5 hcell hI hb1
        go_wp2_with (first
          | (refine wpList_store_row rfl 39 (.tmp 5) (.tmp 30) rfl (w.heap.size + 1 + 1) #[.pointer r] rfl rfl 39 #[.pointer p] x5 sizeTreeI rfl (one_ptrI _) ?_)
          | (at_mapUpdate; go_loud (refine wpList_mapUpdate_own _ rfl (.tmp 31) (.tmp 32) (.tmp 33) 40 rfl 3 3 keyIntR Try.underlying40 (plainElem Try.prog 3) (w.heap.size + 1 + 1 + 1) k D rfl x8.out hkm (.int .i64 n) (.int .i64 k) (.int .i64 n) rfl rfl Hkey.out (.lit (.int .i64 k)) [] (plainElem_int Try.underlying3 (by simp [Lit.wf, IntKind.min, IntKind.max, IntKind.signed, IntKind.bits]; omega)) ?_); intro w3 hm3 hg3))
        go_light
        exact ⟨⟨k + 1, _, _, _, by omega, by go_num, hrel.out.next Hb1.out Hw.out HI.out hg3 hm3⟩, by simp [intOf]; omega⟩
      · obtain rfl : k = m := by omega
        have c5 := (cell_of_row _ _ 0 _ _ _ hrel.out.r5).trans (rfl : _ = some (Value.pointer p))
        have l5 := (Array.getElem?_eq_some_iff.1 hrel.out.r5).1
        have HA := Lib.hid ((callsIn_wide (n := 8)).1 (all_inI 8 p wr))
        go_wp2_with fail
        refine (HA.out).mono ?_
        rintro e wa ⟨rfl, hwa⟩
        clear c5 hmm
        have hnil := eq_nilF 39 wr.heap.size
        have hza : wa.heap.size = wr.heap.size + 1 := by rw [hwa]; simp
        go_wp2
        refine (wpIn_wide (n := 8)).1 ?_
        obtain ⟨R10, R11, RS, RB0, RB⟩ := rows2 wr (.cells #[.pointer p] 39) (.cells #[.int .i64 0] 3) (.cells #[.int .i64 0] 3)
        subst hwa
        generalize hwR : World.alloc (World.alloc (World.alloc wr _) _) _ = wR at *
        have HRun := Lib.hid (hrel.out.below RB)
        have HRun0 := hrel
        refine wp_range3u 37 rfl (by omega) (gf := 39) (lb := #[.pointer (some ⟨wr.heap.size, 0, none⟩)]) rfl trivial (enters_of Try.func39 (by kernel_rfl) rfl) (all_givesI 7 (by omega) p T wr wr wR hrel.out.tree (by have := hrel.out.fine.le; omega) (Below.refl _ _) RB0)
          KpAI.trans (fun W r r' h => KpAI.putLoop h (by omega) (by omega)) (Below.refl _ _) (fun _ => rfl)
          (fun pre W => Below wr.heap.size wr W ∧ W.heap[wr.heap.size + 1]? = some (.cells #[.int .i64 (pre.length : Nat)] 3 (0, 0)) ∧ W.heap[wr.heap.size + 1 + 1]? = some (.cells #[.int .i64 (lastK pre)] 3 (0, 0)) ∧ pre.length ≤ most)
          (fun c pre W => c = .exit 2 ∧ Below wr.heap.size wr W ∧ W.heap[wr.heap.size + 1]? = some (.cells #[.int .i64 (pre.length : Nat)] 3 (0, 0)) ∧ pre.length = most + 1)
          ?_ ?_ ?_ (fun x => [(40, .int .i64 x.1), (41, .int .i64 x.2), (12, .int .i64 x.1), (13, .int .i64 x.2)]) ?_ ?_ ?_ ?_
        · rintro pre X Y row ⟨hb, r10, r11, hl⟩ hg ht
          exact ⟨hb.grown hg hb.size fun i e => (by have := (ht i e).1; omega), box_turns r10 hg ht (by decide), box_turns r11 hg ht (by decide), hl⟩
        · rintro c pre X Y row ⟨hc, hb, r10, hl⟩ hg ht
          exact ⟨hc, hb.grown hg hb.size fun i e => (by have := (ht i e).1; omega), box_turns r10 hg ht (by decide), hl⟩
        · exact ⟨RB, R10, R11, Nat.zero_le _⟩
        · intro l' x W2 K hK
          dsimp only [encEI]
          gi_wp2
          simpa using hK
        · rintro l' pre x W3 ⟨hb3, r10, r11, hl⟩ hpre
          simp only [List.foldl, List.setIfInBounds_toArray, List.set_cons_zero, List.set_cons_succ]
          have hR := HRun0.out.below hb3
          have hmem : x ∈ T.ents := hpre.subset (by simp)
          have c3 := (cell_of_row _ _ 0 _ _ _ hR.r3).trans (rfl : _ = some (Value.int .u8 most))
          have c6 := (cell_of_row _ _ 0 _ _ _ hR.r6).trans (rfl : _ = some (Value.map (some (w.heap.size + 1 + 1 + 1))))
          have c10 := (cell_of_row _ _ 0 _ _ _ r10).trans (rfl : _ = some (Value.int .i64 (pre.length : Nat)))
          have c11 := (cell_of_row _ _ 0 _ _ _ r11).trans (rfl : _ = some (Value.int .i64 (lastK pre)))
          have f10 := frozen_of_row _ _ 0 _ _ r10
          have f11 := frozen_of_row _ _ 0 _ _ r11
          have l3 := (Array.getElem?_eq_some_iff.1 hR.r3).1
          have l6 := (Array.getElem?_eq_some_iff.1 hR.r6).1
          have l10 := (Array.getElem?_eq_some_iff.1 r10).1
          have l11 := (Array.getElem?_eq_some_iff.1 r11).1
          have Hmap := Lib.hid hR.map
          have Hat := Lib.hid (hR.says.at' x.1 x.2 hmem (.lit (.int .i64 0)))
          have hlk := lastK_lt hR.fine.srt hpre
          have hq : w.heap.size + 5 ≤ wr.heap.size := by have := (Array.getElem?_eq_some_iff.1 HRun0.out.r6).1; omega
          have HW := Lib.hid (round_writes (B := wR.heap.size) (D := wR.heap.size + 2) (n₀ := wr.heap.size) r10 r11 (Nat.le_refl _) (.int .i64 x.1) (.int .i64 ((pre.length : Int) + 1)))
          have HW' := HW
          rw [RS] at HW'
          have HBz : Hid (Below wr.heap.size wr ((W3.setCell ⟨wr.heap.size + 1 + 1, 0, none⟩ (.int .i64 x.1)).setCell ⟨wr.heap.size + 1, 0, none⟩ (.int .i64 ((pre.length : Int) + 1)))) := (hb3.setCell (by show _ ≤ _ + 1 + 1; omega) _).setCell (by show _ ≤ _ + 1; omega) _
          have Hls := Lib.hid (lastK_snoc pre x)
          have Hll : Hid ((pre ++ [x]).length = pre.length + 1) := by show _ = _; simp
          have hxw : -9223372036854775808 ≤ x.1 ∧ x.1 ≤ 9223372036854775807 := hR.rng x hmem
          have Hkey := Lib.hid (show keyOf Try.prog 3 (.int .i64 x.1) = some (.int .i64 x.1) from keyOf_int_mk Try.underlying3 (by simpa [Lit.wf, IntKind.min, IntKind.max, IntKind.signed, IntKind.bits] using hxw))
          generalize pre ++ [x] = pre2 at *
          obtain ⟨xk, xv⟩ := x
          simp only at Hat hlk HW HBz Hls Hkey
          generalize pre.length = L at *
          generalize lastK pre = K1 at *
          clear hR hmem hb3 r10 r11 hxw
          have hw1 : IntKind.i64.wrap ((L : Int) + 1) = (L : Int) + 1 := IntWalk.i64_in _ (by omega)
          have hw2 : IntKind.i64.wrap (most : Int) = (most : Int) := IntWalk.i64_in _ (by omega)
          have hgt : (decide ((0 : Int) < (L : Int)) = false ∧ decide (0 < L) = false ∧ ¬ 0 < L ∧ L ≤ 0) ∨ (decide ((0 : Int) < (L : Int)) = true ∧ decide (0 < L) = true ∧ 0 < L ∧ decide (xk ≤ K1) = false ∧ ¬ xk ≤ K1) := by
            rcases Nat.eq_zero_or_pos L with h | h
            · exact .inl ⟨decide_eq_false (by omega), decide_eq_false (by omega), by omega, by omega⟩
            · exact .inr ⟨decide_eq_true (by omega), decide_eq_true h, h, decide_eq_false (by have := hlk h; omega), by have := hlk h; omega⟩
          have hst : (L + 1 ≤ most ∧ decide ((most : Int) < (L : Int) + 1) = false ∧ ¬ (most : Int) < (L : Int) + 1) ∨ (L + 1 = most + 1 ∧ decide ((most : Int) < (L : Int) + 1) = true ∧ (most : Int) < (L : Int) + 1) := by
            rcases Nat.lt_or_ge L most with h | h
            · exact .inl ⟨h, decide_eq_false (by omega), by omega⟩
            · exact .inr ⟨by omega, decide_eq_true (by omega), by omega⟩
          clear hlk
          rcases hgt with ⟨g3, g3a, g3b, g3c⟩ | ⟨g3, g3a, g3b, g4, g4a⟩ <;> rcases hst with ⟨g5, g6, g7⟩ | ⟨g5, g6, g7⟩
          all_goals
            have G5 := Lib.hid g5
            clear g5
            gi_wp2_with (gi_at_lookup; go_loud (refine wpListIn_lookup_g _ rfl (.tmp 50) (.tmp 51) 40 rfl 3 3 .i64 keyIntR Try.underlying40 Try.underlying3 (zeroIntR _) (w.heap.size + 1 + 1 + 1) k D rfl Hmap.out (.int .i64 xk) (.int .i64 xk) rfl Hkey.out xv Hat.out ?_))
            first
              | exact ⟨HW.out.1, .inl ⟨rfl, HBz.out, by rw [Hll.out]; exact HW.out.2.1, by rw [Hls.out]; exact HW.out.2.2, by rw [Hll.out]; exact G5.out⟩⟩
              | exact ⟨HW'.out.1, .inl ⟨rfl, HBz.out, by rw [Hll.out]; exact HW.out.2.1, by rw [Hls.out]; exact HW.out.2.2, by rw [Hll.out]; exact G5.out⟩⟩
              | exact ⟨HW.out.1, .inr (.inr ⟨2, rfl, rfl, HBz.out, by rw [Hll.out]; exact HW.out.2.1, by rw [Hll.out]; exact G5.out⟩)⟩
              | exact ⟨HW'.out.1, .inr (.inr ⟨2, rfl, rfl, HBz.out, by rw [Hll.out]; exact HW.out.2.1, by rw [Hll.out]; exact G5.out⟩)⟩
        · rintro W4 ⟨hb4, r10, r11, hl⟩ hD
          have HSeen : Hid (T.ents.length = min T.size (most + 1)) := by show _ = _; rw [Tr.ents_len] at hl ⊢; omega
          clear hl r11
          obtain ⟨S, hS⟩ : ∃ S, S = T.ents.length := ⟨_, rfl⟩
          rw [← hS] at HSeen r10
          clear hS
          have HE := Lib.hid (hrel.out.below hb4)
          have hc : T.size ≤ 2000 := by have := hrel.out.fine.le; omega
          have c5' := (cell_of_row _ _ 0 _ _ _ HE.out.r5).trans (rfl : _ = some (Value.pointer p))
          have l5' := (Array.getElem?_eq_some_iff.1 HE.out.r5).1
          have HT := Lib.hid HE.out.tree
          obtain ⟨hd40, hpd⟩ := hrel.out.fine.deep (by omega)
          obtain ⟨s, hs⟩ : ∃ s, s = T.size := ⟨_, rfl⟩
          obtain ⟨d, hd⟩ : ∃ d, d = T.height := ⟨_, rfl⟩
          have Hs := Lib.hid hs
          have Hd := Lib.hid hd
          have Hsz : Hid (Maps.size D = s) := by show _ = _; rw [hrel.out.says.size', Tr.ents_len, hs]
          rw [← hs] at hpd hc HSeen
          rw [← hd] at hd40 hpd
          clear hs hd
          have hz4 := (Array.getElem?_eq_some_iff.1 hD).1
          have hq4 : w.heap.size + 5 ≤ wr.heap.size := by have := (Array.getElem?_eq_some_iff.1 hrel.out.r6).1; omega
          have HF : Hid (∀ X, Hid (Below W4.heap.size W4 X) → (X.cell? ⟨w.heap.size + 1 + 1, 0, none⟩ = some (.pointer p) ∧ X.cell? ⟨w.heap.size + 1 + 1 + 1 + 1, 0, none⟩ = some (.map (some (w.heap.size + 1 + 1 + 1))) ∧ X.cell? ⟨wr.heap.size + 1, 0, none⟩ = some (.int .i64 (S : Nat)) ∧ X.cell? ⟨w.heap.size, 0, none⟩ = some (.int .u8 most) ∧ (Builtin.len_ #[40] 3 #[.map (some (w.heap.size + 1 + 1 + 1))]).run Try.prog X = .ok (.int .i64 (s : Nat)) X) ∧
              (∀ v, (X.setCell ⟨w.heap.size + 1, 0, none⟩ v).cell? ⟨w.heap.size + 1 + 1, 0, none⟩ = some (.pointer p) ∧ (X.setCell ⟨w.heap.size + 1, 0, none⟩ v).cell? ⟨w.heap.size + 1 + 1 + 1 + 1, 0, none⟩ = some (.map (some (w.heap.size + 1 + 1 + 1))) ∧ (X.setCell ⟨w.heap.size + 1, 0, none⟩ v).cell? ⟨wr.heap.size + 1, 0, none⟩ = some (.int .i64 (S : Nat)) ∧ (X.setCell ⟨w.heap.size + 1, 0, none⟩ v).cell? ⟨w.heap.size, 0, none⟩ = some (.int .u8 most) ∧ (Builtin.len_ #[40] 3 #[.map (some (w.heap.size + 1 + 1 + 1))]).run Try.prog (X.setCell ⟨w.heap.size + 1, 0, none⟩ v) = .ok (.int .i64 (s : Nat)) (X.setCell ⟨w.heap.size + 1, 0, none⟩ v)) ∧
              X.cell? ⟨w.heap.size + 1, 0, none⟩ = some (.bool false) ∧ X.frozen? ⟨w.heap.size + 1, 0, none⟩ = false ∧ w.heap.size + 1 < X.heap.size ∧
              Hid (X.ownsMap Try.prog 3 (plainElem Try.prog 3) (w.heap.size + 1 + 1 + 1) k D) ∧ Hid (Is (Value.int .i64) 86 X p T) ∧
              Hid ((X.setCell ⟨w.heap.size + 1, 0, none⟩ (.bool true)).heap[wR.heap.size]? = some (.deferred (some [])) ∧ ((X.setCell ⟨w.heap.size + 1, 0, none⟩ (.bool true)).putObj wR.heap.size (.deferred none)).heap[w.heap.size + 1]? = some (.cells #[.bool true] 4 (0, 0)) ∧ Below w.heap.size w ((X.setCell ⟨w.heap.size + 1, 0, none⟩ (.bool true)).putObj wR.heap.size (.deferred none)))) := fun X hX => by
            have hE := HE.out.below hX.out
            have h10 := (hX.out.block _ (Array.getElem?_eq_some_iff.1 r10).1).trans r10
            have hDX := (hX.out.block _ hz4).trans hD
            have oth : ∀ {i : Nat} {o : Obj} (v : Value), i ≠ w.heap.size + 1 → X.heap[i]? = some o → (X.setCell ⟨w.heap.size + 1, 0, none⟩ v).heap[i]? = some o := fun {i o} v hi h => (heap_setCell_other _ _ _ _ hi).trans h
            refine ⟨⟨(cell_of_row _ _ 0 _ _ _ hE.r5).trans rfl, (cell_of_row _ _ 0 _ _ _ hE.r6).trans rfl, (cell_of_row _ _ 0 _ _ _ h10).trans rfl, (cell_of_row _ _ 0 _ _ _ hE.r3).trans rfl, by rw [← Hsz.out]; exact hE.map.len Try.underlying40 _⟩,
              fun v => ⟨(cell_of_row _ _ 0 _ _ _ (oth v (by omega) hE.r5)).trans rfl, (cell_of_row _ _ 0 _ _ _ (oth v (by omega) hE.r6)).trans rfl, (cell_of_row _ _ 0 _ _ _ (oth v (by omega) h10)).trans rfl, (cell_of_row _ _ 0 _ _ _ (oth v (by omega) hE.r3)).trans rfl, by rw [← Hsz.out]; exact (hE.map.setCell (a := ⟨w.heap.size + 1, 0, none⟩) (show w.heap.size + 1 + 1 + 1 ≠ w.heap.size + 1 by omega) v).len Try.underlying40 _⟩,
              (cell_of_row _ _ 0 _ _ _ hE.r4).trans rfl, frozen_of_row _ _ 0 _ _ hE.r4, (Array.getElem?_eq_some_iff.1 hE.r4).1, hE.map, hE.tree, oth _ (by omega) hDX, ?_, ?_⟩
            · exact (World.putObj_heap_other (by omega)).trans (heap_setCell_same X _ 0 _ _ _ hE.r4)
            · exact (hE.bel.setCell (by show _ ≤ _ + 1; omega) _).grown (grownBy_putObj' _ _ _) (by have := hE.bel.size; simp; omega) fun i e => by injection e with e; omega
          have HSz : Hid (∀ X, Hid (Below W4.heap.size W4 X) → Calls Try.prog 13 #[.agg #[.pointer p]] X fun e w' => e = .returned (.int .i64 (s : Nat)) ∧ Hid (Below W4.heap.size W4 w')) := fun X hX => by
            rw [Hs.out]
            exact (sizeT_anyI p T X (HF.out X hX).2.2.2.2.2.2.1.out).mono fun e w' ⟨h1, h2⟩ => ⟨h1, hX.out.trans (h2.mono hX.out.size)⟩
          have HAw : Hid (∀ X, Hid (Below W4.heap.size W4 X) → Calls Try.prog 6 #[] X fun e w' => e = .returned (.bool true) ∧ Hid (Below W4.heap.size W4 w')) := fun X hX =>
            (awake12_any X).mono fun e w' ⟨h1, h2⟩ => ⟨h1, hX.out.trans (h2.mono hX.out.size)⟩
          have HDp : Hid (Calls Try.prog 12 #[.agg #[.pointer p]] W4 fun e w' => e = .returned (.int .i64 (d : Nat)) ∧ Hid (Below W4.heap.size W4 w')) := by
            rw [Hd.out]
            exact (depthT_anyI p T W4 HT.out).mono fun e w' ⟨h1, h2⟩ => ⟨h1, h2⟩
          obtain ⟨p2, hp⟩ : ∃ p2, p2 = 2 ^ d := ⟨_, rfl⟩
          rw [← hp] at hpd
          have hpi : (2 : Int) ^ d = (p2 : Int) := by rw [hp]; simp
          have hss : (s + 1) * (s + 1) ≤ 2001 * 2001 := Nat.mul_le_mul (by omega) (by omega)
          have hwp : IntKind.i64.wrap ((p2 : Nat) : Int) = (p2 : Int) := IntWalk.i64_in _ (by omega)
          have hmu : ((s : Int) + 1) * ((s : Int) + 1) = (((s + 1) * (s + 1) : Nat) : Int) := by simp
          obtain ⟨sq, hsq⟩ : ∃ sq, sq = (s + 1) * (s + 1) := ⟨_, rfl⟩
          rw [← hsq] at hpd hss hmu
          have hwq2 : IntKind.i64.wrap (sq : Int) = (sq : Int) := IntWalk.i64_in _ (by omega)
          clear hsq hp
          have g1 : decide ((d : Int) ≤ 40) = true := decide_eq_true (by omega)
          have g2 : decide (p2 ≤ sq) = true := decide_eq_true hpd
          have hw1 : IntKind.i64.wrap ((s : Int) + 1) = (s : Int) + 1 := IntWalk.i64_in _ (by omega)
          have hw2 : IntKind.i64.wrap ((most : Int) + 1) = (most : Int) + 1 := IntWalk.i64_in _ (by omega)
          have hw3 : IntKind.i64.wrap (most : Int) = (most : Int) := IntWalk.i64_in _ (by omega)
          have hmi : ((S : Nat) : Int) = min (s : Int) ((most : Int) + 1) := by have := HSeen.out; omega
          clear r10 hD hb4 hz4
          simp only [Exit.inBlock, Exit.then]
          go_wp2_with fail
          refine (HDp.out).mono ?_
          rintro e x0 ⟨rfl, hb0⟩
          obtain ⟨⟨e5, e6, e10, e3, -⟩, -⟩ := HF.out x0 hb0
          have hb : Hid (Below W4.heap.size W4 x0.drew) := hb0.out.drew
          clear c5' l5'
          go_wp2_with fail
          go_region_held3 (fun w' => w'.cell? ⟨w.heap.size + 1 + 1, 0, none⟩ = some (.pointer p) ∧ w'.cell? ⟨w.heap.size + 1 + 1 + 1 + 1, 0, none⟩ = some (.map (some (w.heap.size + 1 + 1 + 1))) ∧ w'.cell? ⟨wr.heap.size + 1, 0, none⟩ = some (.int .i64 (S : Nat)) ∧ w'.cell? ⟨w.heap.size, 0, none⟩ = some (.int .u8 most) ∧ (Builtin.len_ #[40] 3 #[.map (some (w.heap.size + 1 + 1 + 1))]).run Try.prog w' = .ok (.int .i64 (s : Nat)) w')
            (first | exact (HF.out _ hb).1 | exact (HF.out _ hb).2.1 _)
            (first
              | (go_at_call 13; (with_reducible refine (HSz.out _ hb).mono ?_); rintro e x1 ⟨rfl, hb⟩)
              | (go_at_call 6; (with_reducible refine (HAw.out _ hb).mono ?_); rintro e x1 ⟨rfl, hb⟩; obtain ⟨-, -, q1, q2, q3, -⟩ := HF.out _ hb))
          all_goals
            go_wp2
            (try simp only [Exit.inBlock, Exit.then])
            obtain ⟨z1, z2, z3⟩ := (HF.out _ hb).2.2.2.2.2.2.2.out
            rw [RS] at z1 z2 z3
            refine ⟨by simp, .inl ⟨_, _, rfl, run_takeDeferred z1, ?_⟩⟩
            exact ⟨.bool true, results_boxB rfl _ _ _ _ rfl z2, rfl, z3⟩
        · rintro c pre W4 hpre ⟨rfl, hb4, r10, hl⟩ hD
          have HSeen : Hid (pre.length = min T.size (most + 1)) := by show _ = _; have := hpre.length_le; rw [Tr.ents_len] at this; omega
          clear hl hpre
          obtain ⟨S, hS⟩ : ∃ S, S = pre.length := ⟨_, rfl⟩
          rw [← hS] at HSeen r10
          clear hS
          have HE := Lib.hid (hrel.out.below hb4)
          have hc : T.size ≤ 2000 := by have := hrel.out.fine.le; omega
          have c5' := (cell_of_row _ _ 0 _ _ _ HE.out.r5).trans (rfl : _ = some (Value.pointer p))
          have l5' := (Array.getElem?_eq_some_iff.1 HE.out.r5).1
          have HT := Lib.hid HE.out.tree
          obtain ⟨hd40, hpd⟩ := hrel.out.fine.deep (by omega)
          obtain ⟨s, hs⟩ : ∃ s, s = T.size := ⟨_, rfl⟩
          obtain ⟨d, hd⟩ : ∃ d, d = T.height := ⟨_, rfl⟩
          have Hs := Lib.hid hs
          have Hd := Lib.hid hd
          have Hsz : Hid (Maps.size D = s) := by show _ = _; rw [hrel.out.says.size', Tr.ents_len, hs]
          rw [← hs] at hpd hc HSeen
          rw [← hd] at hd40 hpd
          clear hs hd
          have hz4 := (Array.getElem?_eq_some_iff.1 hD).1
          have hq4 : w.heap.size + 5 ≤ wr.heap.size := by have := (Array.getElem?_eq_some_iff.1 hrel.out.r6).1; omega
          have HF : Hid (∀ X, Hid (Below W4.heap.size W4 X) → (X.cell? ⟨w.heap.size + 1 + 1, 0, none⟩ = some (.pointer p) ∧ X.cell? ⟨w.heap.size + 1 + 1 + 1 + 1, 0, none⟩ = some (.map (some (w.heap.size + 1 + 1 + 1))) ∧ X.cell? ⟨wr.heap.size + 1, 0, none⟩ = some (.int .i64 (S : Nat)) ∧ X.cell? ⟨w.heap.size, 0, none⟩ = some (.int .u8 most) ∧ (Builtin.len_ #[40] 3 #[.map (some (w.heap.size + 1 + 1 + 1))]).run Try.prog X = .ok (.int .i64 (s : Nat)) X) ∧
              (∀ v, (X.setCell ⟨w.heap.size + 1, 0, none⟩ v).cell? ⟨w.heap.size + 1 + 1, 0, none⟩ = some (.pointer p) ∧ (X.setCell ⟨w.heap.size + 1, 0, none⟩ v).cell? ⟨w.heap.size + 1 + 1 + 1 + 1, 0, none⟩ = some (.map (some (w.heap.size + 1 + 1 + 1))) ∧ (X.setCell ⟨w.heap.size + 1, 0, none⟩ v).cell? ⟨wr.heap.size + 1, 0, none⟩ = some (.int .i64 (S : Nat)) ∧ (X.setCell ⟨w.heap.size + 1, 0, none⟩ v).cell? ⟨w.heap.size, 0, none⟩ = some (.int .u8 most) ∧ (Builtin.len_ #[40] 3 #[.map (some (w.heap.size + 1 + 1 + 1))]).run Try.prog (X.setCell ⟨w.heap.size + 1, 0, none⟩ v) = .ok (.int .i64 (s : Nat)) (X.setCell ⟨w.heap.size + 1, 0, none⟩ v)) ∧
              X.cell? ⟨w.heap.size + 1, 0, none⟩ = some (.bool false) ∧ X.frozen? ⟨w.heap.size + 1, 0, none⟩ = false ∧ w.heap.size + 1 < X.heap.size ∧
              Hid (X.ownsMap Try.prog 3 (plainElem Try.prog 3) (w.heap.size + 1 + 1 + 1) k D) ∧ Hid (Is (Value.int .i64) 86 X p T) ∧
              Hid ((X.setCell ⟨w.heap.size + 1, 0, none⟩ (.bool true)).heap[wR.heap.size]? = some (.deferred (some [])) ∧ ((X.setCell ⟨w.heap.size + 1, 0, none⟩ (.bool true)).putObj wR.heap.size (.deferred none)).heap[w.heap.size + 1]? = some (.cells #[.bool true] 4 (0, 0)) ∧ Below w.heap.size w ((X.setCell ⟨w.heap.size + 1, 0, none⟩ (.bool true)).putObj wR.heap.size (.deferred none)))) := fun X hX => by
            have hE := HE.out.below hX.out
            have h10 := (hX.out.block _ (Array.getElem?_eq_some_iff.1 r10).1).trans r10
            have hDX := (hX.out.block _ hz4).trans hD
            have oth : ∀ {i : Nat} {o : Obj} (v : Value), i ≠ w.heap.size + 1 → X.heap[i]? = some o → (X.setCell ⟨w.heap.size + 1, 0, none⟩ v).heap[i]? = some o := fun {i o} v hi h => (heap_setCell_other _ _ _ _ hi).trans h
            refine ⟨⟨(cell_of_row _ _ 0 _ _ _ hE.r5).trans rfl, (cell_of_row _ _ 0 _ _ _ hE.r6).trans rfl, (cell_of_row _ _ 0 _ _ _ h10).trans rfl, (cell_of_row _ _ 0 _ _ _ hE.r3).trans rfl, by rw [← Hsz.out]; exact hE.map.len Try.underlying40 _⟩,
              fun v => ⟨(cell_of_row _ _ 0 _ _ _ (oth v (by omega) hE.r5)).trans rfl, (cell_of_row _ _ 0 _ _ _ (oth v (by omega) hE.r6)).trans rfl, (cell_of_row _ _ 0 _ _ _ (oth v (by omega) h10)).trans rfl, (cell_of_row _ _ 0 _ _ _ (oth v (by omega) hE.r3)).trans rfl, by rw [← Hsz.out]; exact (hE.map.setCell (a := ⟨w.heap.size + 1, 0, none⟩) (show w.heap.size + 1 + 1 + 1 ≠ w.heap.size + 1 by omega) v).len Try.underlying40 _⟩,
              (cell_of_row _ _ 0 _ _ _ hE.r4).trans rfl, frozen_of_row _ _ 0 _ _ hE.r4, (Array.getElem?_eq_some_iff.1 hE.r4).1, hE.map, hE.tree, oth _ (by omega) hDX, ?_, ?_⟩
            · exact (World.putObj_heap_other (by omega)).trans (heap_setCell_same X _ 0 _ _ _ hE.r4)
            · exact (hE.bel.setCell (by show _ ≤ _ + 1; omega) _).grown (grownBy_putObj' _ _ _) (by have := hE.bel.size; simp; omega) fun i e => by injection e with e; omega
          have HSz : Hid (∀ X, Hid (Below W4.heap.size W4 X) → Calls Try.prog 13 #[.agg #[.pointer p]] X fun e w' => e = .returned (.int .i64 (s : Nat)) ∧ Hid (Below W4.heap.size W4 w')) := fun X hX => by
            rw [Hs.out]
            exact (sizeT_anyI p T X (HF.out X hX).2.2.2.2.2.2.1.out).mono fun e w' ⟨h1, h2⟩ => ⟨h1, hX.out.trans (h2.mono hX.out.size)⟩
          have HAw : Hid (∀ X, Hid (Below W4.heap.size W4 X) → Calls Try.prog 6 #[] X fun e w' => e = .returned (.bool true) ∧ Hid (Below W4.heap.size W4 w')) := fun X hX =>
            (awake12_any X).mono fun e w' ⟨h1, h2⟩ => ⟨h1, hX.out.trans (h2.mono hX.out.size)⟩
          have HDp : Hid (Calls Try.prog 12 #[.agg #[.pointer p]] W4 fun e w' => e = .returned (.int .i64 (d : Nat)) ∧ Hid (Below W4.heap.size W4 w')) := by
            rw [Hd.out]
            exact (depthT_anyI p T W4 HT.out).mono fun e w' ⟨h1, h2⟩ => ⟨h1, h2⟩
          obtain ⟨p2, hp⟩ : ∃ p2, p2 = 2 ^ d := ⟨_, rfl⟩
          rw [← hp] at hpd
          have hpi : (2 : Int) ^ d = (p2 : Int) := by rw [hp]; simp
          have hss : (s + 1) * (s + 1) ≤ 2001 * 2001 := Nat.mul_le_mul (by omega) (by omega)
          have hwp : IntKind.i64.wrap ((p2 : Nat) : Int) = (p2 : Int) := IntWalk.i64_in _ (by omega)
          have hmu : ((s : Int) + 1) * ((s : Int) + 1) = (((s + 1) * (s + 1) : Nat) : Int) := by simp
          obtain ⟨sq, hsq⟩ : ∃ sq, sq = (s + 1) * (s + 1) := ⟨_, rfl⟩
          rw [← hsq] at hpd hss hmu
          have hwq2 : IntKind.i64.wrap (sq : Int) = (sq : Int) := IntWalk.i64_in _ (by omega)
          clear hsq hp
          have g1 : decide ((d : Int) ≤ 40) = true := decide_eq_true (by omega)
          have g2 : decide (p2 ≤ sq) = true := decide_eq_true hpd
          have hw1 : IntKind.i64.wrap ((s : Int) + 1) = (s : Int) + 1 := IntWalk.i64_in _ (by omega)
          have hw2 : IntKind.i64.wrap ((most : Int) + 1) = (most : Int) + 1 := IntWalk.i64_in _ (by omega)
          have hw3 : IntKind.i64.wrap (most : Int) = (most : Int) := IntWalk.i64_in _ (by omega)
          have hmi : ((S : Nat) : Int) = min (s : Int) ((most : Int) + 1) := by have := HSeen.out; omega
          clear r10 hD hb4 hz4
          refine wpIn_wide.2 ?_
          go_wp2_with fail
          refine (HDp.out).mono ?_
          rintro e x0 ⟨rfl, hb0⟩
          obtain ⟨⟨e5, e6, e10, e3, -⟩, -⟩ := HF.out x0 hb0
          have hb : Hid (Below W4.heap.size W4 x0.drew) := hb0.out.drew
          clear c5' l5'
          go_wp2_with fail
          go_region_held3 (fun w' => w'.cell? ⟨w.heap.size + 1 + 1, 0, none⟩ = some (.pointer p) ∧ w'.cell? ⟨w.heap.size + 1 + 1 + 1 + 1, 0, none⟩ = some (.map (some (w.heap.size + 1 + 1 + 1))) ∧ w'.cell? ⟨wr.heap.size + 1, 0, none⟩ = some (.int .i64 (S : Nat)) ∧ w'.cell? ⟨w.heap.size, 0, none⟩ = some (.int .u8 most) ∧ (Builtin.len_ #[40] 3 #[.map (some (w.heap.size + 1 + 1 + 1))]).run Try.prog w' = .ok (.int .i64 (s : Nat)) w')
            (first | exact (HF.out _ hb).1 | exact (HF.out _ hb).2.1 _)
            (first
              | (go_at_call 13; (with_reducible refine (HSz.out _ hb).mono ?_); rintro e x1 ⟨rfl, hb⟩)
              | (go_at_call 6; (with_reducible refine (HAw.out _ hb).mono ?_); rintro e x1 ⟨rfl, hb⟩; obtain ⟨-, -, q1, q2, q3, -⟩ := HF.out _ hb))
          all_goals
            go_wp2
            (try simp only [Exit.inBlock, Exit.then])
            obtain ⟨z1, z2, z3⟩ := (HF.out _ hb).2.2.2.2.2.2.2.out
            rw [RS] at z1 z2 z3
            refine ⟨by simp, .inl ⟨_, _, rfl, run_takeDeferred z1, ?_⟩⟩
            exact ⟨.bool true, results_boxB rfl _ _ _ _ rfl z2, rfl, z3⟩
end Go.Proofs.Ytdffgkhlkbaecaa.Tok
