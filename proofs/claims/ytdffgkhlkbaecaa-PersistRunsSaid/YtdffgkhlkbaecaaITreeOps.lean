/- Contracts of a tree's methods. -/
import Derived.Test.YtdffgkhlkbaecaaITreeSplit
import Derived.Test.YtdffgkhlkbaecaaTreeOrd
import Derived.Sort.Walk0
namespace Go.Proofs.Ytdffgkhlkbaecaa.Tok
open Go.RowKit Go.Proofs.Ytdffgkhlkbaecaa

theorem cmpS_isI (a b : Int) : (a < b ∧ cmpSI a b = -1) ∨ (a = b ∧ cmpSI a b = 0) ∨ (b < a ∧ cmpSI a b = 1) := by
  rcases cmpS_casesI a b with ⟨g, e⟩ | ⟨_, g, e⟩ | ⟨g0, g, e⟩
  · exact .inl ⟨g, e⟩
  · exact .inr (.inl ⟨eq_of_beq g, e⟩)
  · have h0 := of_decide_eq_false g0
    have h1 := beq_eq_false_iff_ne.1 g
    exact .inr (.inr ⟨by omega, e⟩)
theorem cmpS_okI : Tr.CmpOk cmpSI where
  trans := fun {a b d} h1 h2 => by
    rcases cmpS_isI a b with ⟨g1, _⟩ | ⟨_, e⟩ | ⟨_, e⟩ <;> (try omega)
    rcases cmpS_isI b d with ⟨g2, _⟩ | ⟨_, e⟩ | ⟨_, e⟩ <;> (try omega)
    rcases cmpS_isI a d with ⟨_, e⟩ | ⟨g, e⟩ | ⟨g, e⟩ <;> omega
  eq := fun {a b} => by rcases cmpS_isI a b with ⟨g, e⟩ | ⟨g, e⟩ | ⟨g, e⟩ <;> omega
  swap := fun {a b} => by
    rcases cmpS_isI a b with ⟨g, e⟩ | ⟨g, e⟩ | ⟨g, e⟩ <;> rcases cmpS_isI b a with ⟨g', e'⟩ | ⟨g', e'⟩ | ⟨g', e'⟩ <;> omega

theorem sizeTreeI : (Try.prog.info? 39).map (·.size) = some 1 := by kernel_rfl
theorem one_ptrI (p : Option Addr) : (#[Value.pointer p].all (·.oneCell')) = true := by simp [Value.oneCell']
theorem ptr_alloc_2I (w : World) (a b : Obj) : ((w.alloc a).alloc b).heap[w.heap.size + 1]? = some b := by
  have := heap_alloc_new (w.alloc a) b
  rwa [show (w.alloc a).heap.size = w.heap.size + 1 by simp] at this
theorem setRow_belowI {w w1 : World} {B g : Nat} (h : Below B w w1) (hg : B ≤ g) (cs : Array Value) : Below B w (w1.setRow g cs) :=
  h.trans ⟨rfl, rfl, rfl, by simp, fun i hi => setRow_other _ _ _ _ (by omega)⟩
/-- A store into a block of one cell hides no tree. -/
theorem IsT.setRowI {α : Type} {kv : α → Value} {w : World} {B g : Nat} {u : Value} {T T' : TypeId} (hg : w.heap[g]? = some (.cells #[u] T' (0, 0))) (cs : Array Value) : ∀ {t : Tr α} {p : Option Addr}, IsT kv T w B p t → IsT kv T (w.setRow g cs) B p t
  | .nil, _, h => h
  | .node k x l r, _, h => by
    obtain ⟨b, lp, rp, h0, h1, c, hl, hr⟩ := h
    have hne : b ≠ g := by
      rintro rfl
      rw [hg] at c
      simp at c
    exact ⟨b, lp, rp, h0, h1, (setRow_other _ _ _ _ hne).trans c, IsT.setRowI hg cs hl, IsT.setRowI hg cs hr⟩
theorem Is.setRowI {α : Type} {kv : α → Value} {w : World} {g : Nat} {u : Value} {T T' : TypeId} {t : Tr α} {p : Option Addr} (h : Is kv T w p t) (hg : w.heap[g]? = some (.cells #[u] T' (0, 0))) (cs : Array Value) : Is kv T (w.setRow g cs) p t :=
  (IsT.setRowI hg cs h).more (by simp)

set_option maxHeartbeats 800000 in
theorem sizeT_anyI (p : Option Addr) (t : Tr Int) (w : World) (h : Is (Value.int .i64) 86 w p t) : Calls Try.prog 13 #[.agg #[.pointer p]] w fun e w' => e = .returned (.int .i64 (t.size : Nat)) ∧ Below w.heap.size w w' := by
  have HC : Hid (∀ o, Calls Try.prog 42 #[.pointer p] (w.alloc o) fun e w' => e = .returned (.int .i64 (t.size : Nat)) ∧ w' = w.alloc o) := fun o => countS_anyI p t _ (h.below ((Below.refl _ _).alloc (Nat.le_refl _) o))
  clear h
  generalize t.size = n at HC ⊢
  go_enter Try.func13, Try.ntmps13
  go_wp2_with fail
  refine (HC.out _).mono ?_
  rintro e w' ⟨rfl, rfl⟩
  go_wp2
  go_ret
  exact ⟨rfl, (Below.refl _ _).alloc (Nat.le_refl _) _⟩
set_option maxHeartbeats 800000 in
theorem depthT_anyI (p : Option Addr) (t : Tr Int) (w : World) (h : Is (Value.int .i64) 86 w p t) : Calls Try.prog 12 #[.agg #[.pointer p]] w fun e w' => e = .returned (.int .i64 (t.height : Nat)) ∧ Below w.heap.size w w' := by
  have HC : Hid (∀ o, Calls Try.prog 41 #[.pointer p] (w.alloc o) fun e w' => e = .returned (.int .i64 (t.height : Nat)) ∧ w' = w.alloc o) := fun o => heightS_anyI p t _ (h.below ((Below.refl _ _).alloc (Nat.le_refl _) o))
  clear h
  generalize t.height = n at HC ⊢
  go_enter Try.func12, Try.ntmps12
  go_wp2_with fail
  refine (HC.out _).mono ?_
  rintro e w' ⟨rfl, rfl⟩
  go_wp2
  go_ret
  exact ⟨rfl, (Below.refl _ _).alloc (Nat.le_refl _) _⟩
/-- A new tree by value. -/
def MakesTI {α : Type} (kv : α → Value) (T : TypeId) (w : World) (t : Tr α) (e : Ending) (w' : World) : Prop := ∃ p, e = .returned (.agg #[.pointer p]) ∧ Is kv T w' p t ∧ Below w.heap.size w w'

set_option maxHeartbeats 1600000 in
set_option maxRecDepth 8000 in
theorem putT_anyI (p : Option Addr) (t : Tr Int) (k : Int) (x : Int) (w : World) (h : Is (Value.int .i64) 86 w p t) (hs : t.size ≤ 900000) :
    Calls Try.prog 10 #[.agg #[.pointer p], .int .i64 k, .int .i64 x] w (MakesTI (Value.int .i64) 86 w (Tr.join (Tr.split (cmpSI k) t).1 k x (Tr.split (cmpSI k) t).2)) := by
  have H := Lib.hid h
  have Hz := Lib.hid (Tr.size_split (cmpSI k) t)
  have HS : Hid (∀ wq, Below w.heap.size w wq → Calls Try.prog 36 #[.pointer p, .func (.func 37) #[.agg #[.int .i64 k]] #[]] wq (Makes2I (Value.int .i64) 86 wq (Tr.split (cmpSI k) t).1 (Tr.split (cmpSI k) t).2)) := fun wq hb => splitS_anyI k t p wq (H.out.below hb) (by omega)
  generalize Tr.split (cmpSI k) t = T at HS Hz ⊢
  clear h
  go_enter Try.func10, Try.ntmps10
  go_wp2_with fail
  generalize hwq : World.alloc (World.alloc _ _) _ = wq
  have hbq : Below w.heap.size w wq := by subst hwq; exact ((Below.refl _ _).alloc (Nat.le_refl _) _).alloc (by simp) _
  have hsq : wq.heap.size = w.heap.size + 2 := by subst hwq; simp
  have hrow : wq.heap[w.heap.size + 1]? = some (.cells #[.pointer none] 39 (0, 0)) := by subst hwq; exact ptr_alloc_2I _ _ _
  clear hwq
  have Hrow := Lib.hid hrow
  have Hbq := Lib.hid hbq
  have Hsq := Lib.hid hsq
  clear hrow hbq hsq
  refine (HS.out wq Hbq.out).mono ?_
  rintro e w1 ⟨p1, q1, rfl, h1, h2, hb1⟩
  have H1 := Lib.hid h1
  have H2 := Lib.hid h2
  have Hb1 := Lib.hid hb1
  clear h1 h2 hb1
  go_wp2_with fail
  generalize hwr : World.alloc w1 _ = wr
  have hbr : Below w1.heap.size w1 wr := by subst hwr; exact (Below.refl _ _).alloc (Nat.le_refl _) _
  have hhd : Hd wr (some ⟨w1.heap.size, 0, none⟩) (.int .i64 k) x := by
    subst hwr
    exact ⟨w1.heap.size, rfl, by simp, (cell_of_row _ _ _ _ _ _ (heap_alloc_new w1 _)).trans rfl, (cell_of_row _ _ _ _ _ _ (heap_alloc_new w1 _)).trans rfl⟩
  clear hwr
  have HJ := Lib.hid (joinS_anyI p1 _ q1 T.1 T.2 k x wr (H1.out.below hbr) hhd (H2.out.below hbr) (by have := Hz.out; omega))
  have Hbr := Lib.hid hbr
  clear hbr hhd
  refine (HJ.out).mono ?_
  rintro e w2 ⟨p2, rfl, h3, hb2⟩
  have hbz : Below wq.heap.size wq w2 := (Hb1.out.trans (Hbr.out.mono Hb1.out.size)).trans (hb2.mono (Nat.le_trans Hb1.out.size Hbr.out.size))
  have Hrow2 := Lib.hid ((hbz.block (w.heap.size + 1) (by have := Hsq.out; omega)).trans Hrow.out)
  have Hbz := Lib.hid (Hbq.out.trans (hbz.mono Hbq.out.size))
  have H3 := Lib.hid h3
  clear h3 hb2 hbz
  go_wp2_with (refine wpList_store_row rfl 39 (.tmp 6) (.tmp 25) rfl (w.heap.size + 1) #[.pointer p2] rfl rfl 39 #[.pointer none] Hrow2.out sizeTreeI rfl (one_ptrI _) ?_)
  (try simp only [Exit.inBlock, Exit.then])
  refine bodyPost_ret (v := .agg #[.pointer p2]) (results_cell_row rfl _ _ (w.heap.size + 1) 39 #[.pointer p2] (0, 0) _ rfl (setRow_heap _ _ _ _ _ _ Hrow2.out) Try.underlying39 rfl sizeTreeI) rfl ⟨p2, rfl, ?_, setRow_belowI Hbz.out (by omega) _⟩
  exact H3.out.setRowI Hrow2.out _

/-- Two new trees by value. -/
def Makes2TI {α : Type} (kv : α → Value) (T : TypeId) (w : World) (t u : Tr α) (e : Ending) (w' : World) : Prop := ∃ p q, e = .returned (.tuple #[.agg #[.pointer p], .agg #[.pointer q]]) ∧ Is kv T w' p t ∧ Is kv T w' q u ∧ Below w.heap.size w w'
theorem results_row2I {P : Program} {fn : Func} {p q : Tmp} {ty : TypeId} (h : fn.results = #[.cell p ty, .cell q ty]) (tmps : Array Value) (w : World) (g1 g2 : Nat) (t : TypeId) (cs ds : Array Value) (fr : Nat × Nat) (d : TypeDesc)
    (hp : tmps.getD p undef = .pointer (some ⟨g1, 0, none⟩)) (hq : tmps.getD q undef = .pointer (some ⟨g2, 0, none⟩)) (hg1 : w.heap[g1]? = some (.cells cs t fr)) (hg2 : w.heap[g2]? = some (.cells ds t fr))
    (hu : P.underlying ty = some d) (hd : (match d with | .struct _ | .array _ _ => true | _ => false) = true) (hi : (P.info? ty).map (·.size) = some cs.size) (hi2 : ds.size = cs.size) :
    (results fn tmps).run P w = .ok (.tuple #[.agg cs, .agg ds]) w := by
  have hp' : tmps[p]?.getD undef = .pointer (some ⟨g1, 0, none⟩) := by simpa using hp
  have hq' : tmps[q]?.getD undef = .pointer (some ⟨g2, 0, none⟩) := by simpa using hq
  simp [results, h, hp', hq', asAddr, run_loadVar_row w g1 t ty cs fr d hg1 hu hd hi, run_loadVar_row w g2 t ty ds fr d hg2 hu hd (hi.trans (by rw [hi2])), Result.andThen]

end Go.Proofs.Ytdffgkhlkbaecaa.Tok
