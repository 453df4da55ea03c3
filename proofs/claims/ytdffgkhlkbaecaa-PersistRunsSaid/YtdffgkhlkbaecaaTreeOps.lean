/- Contracts of a tree's methods. -/
import Derived.Test.YtdffgkhlkbaecaaTreeSplit
import Derived.Test.YtdffgkhlkbaecaaTreeOrd
import Derived.Sort.Walk0
namespace Go.Proofs.Ytdffgkhlkbaecaa.Tok
open Go.RowKit Go.Proofs.Ytdffgkhlkbaecaa

theorem cmpS_ok : Tr.CmpOk cmpS where
  trans := fun {a b d} h1 h2 => by
    rcases cmpS_cases a b with ⟨g1, _⟩ | ⟨_, _, e⟩ | ⟨_, _, e⟩ <;> (try omega)
    rcases cmpS_cases b d with ⟨g2, _⟩ | ⟨_, _, e⟩ | ⟨_, _, e⟩ <;> (try omega)
    rw [bytesLess_eq, decide_eq_true_iff] at g1 g2
    have := List.lt_trans g1 g2
    rcases cmpS_cases a d with ⟨_, e⟩ | ⟨g, _, e⟩ | ⟨g, _, e⟩
    · omega
    · rw [bytesLess_eq, decide_eq_false_iff_not] at g; exact absurd this g
    · rw [bytesLess_eq, decide_eq_false_iff_not] at g; exact absurd this g
  eq := fun {a b} => by
    rcases cmpS_cases a b with ⟨g, e⟩ | ⟨_, g, e⟩ | ⟨_, g, e⟩
    · rw [e]
      constructor
      · intro h; omega
      · rintro rfl
        rw [bytesLess_eq, decide_eq_true_iff] at g
        exact absurd g (List.lt_irrefl _)
    · rw [e]
      constructor
      · intro _
        rw [beq_iff_eq, ByteArray.toList_eq, ByteArray.toList_eq] at g
        exact ByteArray.ext (Array.toList_inj.1 g)
      · intro _; rfl
    · rw [e]
      constructor
      · intro h; omega
      · intro h
        rw [h] at g
        simp at g
  swap := fun {a b} => by
    rcases cmpS_cases a b with ⟨g, e⟩ | ⟨_, g, e⟩ | ⟨g1, g2, e⟩
    · rw [e]
      rcases cmpS_cases b a with ⟨g', e'⟩ | ⟨_, _, e'⟩ | ⟨_, _, e'⟩
      · rw [bytesLess_eq, decide_eq_true_iff] at g g'
        exact absurd (List.lt_trans g g') (List.lt_irrefl _)
      · rw [e']; omega
      · rw [e']; omega
    · rw [e]
      have hab : a = b := by
        rw [beq_iff_eq, ByteArray.toList_eq, ByteArray.toList_eq] at g
        exact ByteArray.ext (Array.toList_inj.1 g)
      subst hab
      rw [e]
    · rw [e]
      rcases cmpS_cases b a with ⟨g', e'⟩ | ⟨_, g', e'⟩ | ⟨g', _, e'⟩
      · rw [e']; omega
      · rw [beq_iff_eq] at g'
        rw [g'] at g2
        simp at g2
      · rw [bytesLess_eq, decide_eq_false_iff_not] at g1 g'
        rw [beq_eq_false_iff_ne] at g2
        exact absurd (List.le_antisymm (List.not_lt.1 g') (List.not_lt.1 g1)) g2

theorem sizeTree : (Try.prog.info? 27).map (·.size) = some 1 := by kernel_rfl
theorem one_ptr (p : Option Addr) : (#[Value.pointer p].all (·.oneCell')) = true := by simp [Value.oneCell']
theorem ptr_alloc_2 (w : World) (a b : Obj) : ((w.alloc a).alloc b).heap[w.heap.size + 1]? = some b := by
  have := heap_alloc_new (w.alloc a) b
  rwa [show (w.alloc a).heap.size = w.heap.size + 1 by simp] at this
theorem setRow_below {w w1 : World} {B g : Nat} (h : Below B w w1) (hg : B ≤ g) (cs : Array Value) : Below B w (w1.setRow g cs) :=
  h.trans ⟨rfl, rfl, rfl, by simp, fun i hi => setRow_other _ _ _ _ (by omega)⟩
/-- A store into a block of one cell hides no tree. -/
theorem IsT.setRow {α : Type} {kv : α → Value} {w : World} {B g : Nat} {u : Value} {T T' : TypeId} (hg : w.heap[g]? = some (.cells #[u] T' (0, 0))) (cs : Array Value) : ∀ {t : Tr α} {p : Option Addr}, IsT kv T w B p t → IsT kv T (w.setRow g cs) B p t
  | .nil, _, h => h
  | .node k x l r, _, h => by
    obtain ⟨b, lp, rp, h0, h1, c, hl, hr⟩ := h
    have hne : b ≠ g := by
      rintro rfl
      rw [hg] at c
      simp at c
    exact ⟨b, lp, rp, h0, h1, (setRow_other _ _ _ _ hne).trans c, IsT.setRow hg cs hl, IsT.setRow hg cs hr⟩
theorem Is.setRow {α : Type} {kv : α → Value} {w : World} {g : Nat} {u : Value} {T T' : TypeId} {t : Tr α} {p : Option Addr} (h : Is kv T w p t) (hg : w.heap[g]? = some (.cells #[u] T' (0, 0))) (cs : Array Value) : Is kv T (w.setRow g cs) p t :=
  (IsT.setRow hg cs h).more (by simp)

set_option maxHeartbeats 800000 in
theorem sizeT_any (p : Option Addr) (t : Tr ByteArray) (w : World) (h : Is Value.string 98 w p t) : Calls Try.prog 30 #[.agg #[.pointer p]] w fun e w' => e = .returned (.int .i64 (t.size : Nat)) ∧ Below w.heap.size w w' := by
  have HC : Hid (∀ o, Calls Try.prog 47 #[.pointer p] (w.alloc o) fun e w' => e = .returned (.int .i64 (t.size : Nat)) ∧ w' = w.alloc o) := fun o => countS_any p t _ (h.below ((Below.refl _ _).alloc (Nat.le_refl _) o))
  clear h
  generalize t.size = n at HC ⊢
  go_enter Try.func30, Try.ntmps30
  go_wp2_with fail
  refine (HC.out _).mono ?_
  rintro e w' ⟨rfl, rfl⟩
  go_wp2
  go_ret
  exact ⟨rfl, (Below.refl _ _).alloc (Nat.le_refl _) _⟩
/-- A new tree by value. -/
def MakesT {α : Type} (kv : α → Value) (T : TypeId) (w : World) (t : Tr α) (e : Ending) (w' : World) : Prop := ∃ p, e = .returned (.agg #[.pointer p]) ∧ Is kv T w' p t ∧ Below w.heap.size w w'

set_option maxHeartbeats 1600000 in
set_option maxRecDepth 8000 in
theorem putT_any (p : Option Addr) (t : Tr ByteArray) (k : ByteArray) (x : Int) (w : World) (h : Is Value.string 98 w p t) (hs : t.size ≤ 900000) :
    Calls Try.prog 16 #[.agg #[.pointer p], .string k, .int .i64 x] w (MakesT Value.string 98 w (Tr.join (Tr.split (cmpS k) t).1 k x (Tr.split (cmpS k) t).2)) := by
  have H := Lib.hid h
  have Hz := Lib.hid (Tr.size_split (cmpS k) t)
  have HS : Hid (∀ wq, Below w.heap.size w wq → Calls Try.prog 44 #[.pointer p, .func (.func 45) #[.agg #[.string k]] #[]] wq (Makes2 Value.string 98 wq (Tr.split (cmpS k) t).1 (Tr.split (cmpS k) t).2)) := fun wq hb => splitS_any k t p wq (H.out.below hb) (by omega)
  generalize Tr.split (cmpS k) t = T at HS Hz ⊢
  clear h
  go_enter Try.func16, Try.ntmps16
  go_wp2_with fail
  generalize hwq : World.alloc (World.alloc _ _) _ = wq
  have hbq : Below w.heap.size w wq := by subst hwq; exact ((Below.refl _ _).alloc (Nat.le_refl _) _).alloc (by simp) _
  have hsq : wq.heap.size = w.heap.size + 2 := by subst hwq; simp
  have hrow : wq.heap[w.heap.size + 1]? = some (.cells #[.pointer none] 27 (0, 0)) := by subst hwq; exact ptr_alloc_2 _ _ _
  clear hwq
  have Hrow := Lib.hid hrow
  have Hbq := Lib.hid hbq
  have Hsq := Lib.hid hsq
  clear hrow hbq hsq
  refine (HS.out wq Hbq.out).mono ?_
  rintro e w1 ⟨p1, q1, rfl, h1, h2, hb1⟩
  have H1 := Lib.hid h1
  have H2 := Lib.hid h2
  have Hb1 := Lib.hid hb1
  clear h1 h2 hb1
  go_wp2_with fail
  generalize hwr : World.alloc w1 _ = wr
  have hbr : Below w1.heap.size w1 wr := by subst hwr; exact (Below.refl _ _).alloc (Nat.le_refl _) _
  have hhd : Hd wr (some ⟨w1.heap.size, 0, none⟩) (.string k) x := by
    subst hwr
    exact ⟨w1.heap.size, rfl, by simp, (cell_of_row _ _ _ _ _ _ (heap_alloc_new w1 _)).trans rfl, (cell_of_row _ _ _ _ _ _ (heap_alloc_new w1 _)).trans rfl⟩
  clear hwr
  have HJ := Lib.hid (joinS_any p1 _ q1 T.1 T.2 k x wr (H1.out.below hbr) hhd (H2.out.below hbr) (by have := Hz.out; omega))
  have Hbr := Lib.hid hbr
  clear hbr hhd
  refine (HJ.out).mono ?_
  rintro e w2 ⟨p2, rfl, h3, hb2⟩
  have hbz : Below wq.heap.size wq w2 := (Hb1.out.trans (Hbr.out.mono Hb1.out.size)).trans (hb2.mono (Nat.le_trans Hb1.out.size Hbr.out.size))
  have Hrow2 := Lib.hid ((hbz.block (w.heap.size + 1) (by have := Hsq.out; omega)).trans Hrow.out)
  have Hbz := Lib.hid (Hbq.out.trans (hbz.mono Hbq.out.size))
  have H3 := Lib.hid h3
  clear h3 hb2 hbz
  go_wp2_with (refine wpList_store_row rfl 27 (.tmp 6) (.tmp 25) rfl (w.heap.size + 1) #[.pointer p2] rfl rfl 27 #[.pointer none] Hrow2.out sizeTree rfl (one_ptr _) ?_)
  (try simp only [Exit.inBlock, Exit.then])
  refine bodyPost_ret (v := .agg #[.pointer p2]) (results_cell_row rfl _ _ (w.heap.size + 1) 27 #[.pointer p2] (0, 0) _ rfl (setRow_heap _ _ _ _ _ _ Hrow2.out) Try.underlying27 rfl sizeTree) rfl ⟨p2, rfl, ?_, setRow_below Hbz.out (by omega) _⟩
  exact H3.out.setRow Hrow2.out _

set_option maxHeartbeats 1600000 in
set_option maxRecDepth 8000 in
theorem deleteT_any (p : Option Addr) (t : Tr ByteArray) (k : ByteArray) (w : World) (h : Is Value.string 98 w p t) (hs : t.size ≤ 900000) :
    Calls Try.prog 24 #[.agg #[.pointer p], .string k] w (MakesT Value.string 98 w (Tr.concat (Tr.split (cmpS k) t).1 (Tr.split (cmpS k) t).2)) := by
  have H := Lib.hid h
  have Hz := Lib.hid (Tr.size_split (cmpS k) t)
  have HS : Hid (∀ wq, Below w.heap.size w wq → Calls Try.prog 44 #[.pointer p, .func (.func 45) #[.agg #[.string k]] #[]] wq (Makes2 Value.string 98 wq (Tr.split (cmpS k) t).1 (Tr.split (cmpS k) t).2)) := fun wq hb => splitS_any k t p wq (H.out.below hb) (by omega)
  generalize Tr.split (cmpS k) t = T at HS Hz ⊢
  clear h
  go_enter Try.func24, Try.ntmps24
  go_wp2_with fail
  generalize hwq : World.alloc (World.alloc _ _) _ = wq
  have hbq : Below w.heap.size w wq := by subst hwq; exact ((Below.refl _ _).alloc (Nat.le_refl _) _).alloc (by simp) _
  have hsq : wq.heap.size = w.heap.size + 2 := by subst hwq; simp
  have hrow : wq.heap[w.heap.size + 1]? = some (.cells #[.pointer none] 27 (0, 0)) := by subst hwq; exact ptr_alloc_2 _ _ _
  clear hwq
  have Hrow := Lib.hid hrow
  have Hbq := Lib.hid hbq
  have Hsq := Lib.hid hsq
  clear hrow hbq hsq
  refine (HS.out wq Hbq.out).mono ?_
  rintro e w1 ⟨p1, q1, rfl, h1, h2, hb1⟩
  have HJ := Lib.hid (concatS_any T.1 T.2 p1 q1 w1 h1 h2 (by have := Hz.out; omega))
  have Hb1 := Lib.hid hb1
  clear h1 h2 hb1
  go_wp2_with fail
  refine (HJ.out).mono ?_
  rintro e w2 ⟨p2, rfl, h3, hb2⟩
  have hbz : Below wq.heap.size wq w2 := Hb1.out.trans (hb2.mono Hb1.out.size)
  have Hrow2 := Lib.hid ((hbz.block (w.heap.size + 1) (by have := Hsq.out; omega)).trans Hrow.out)
  have Hbz := Lib.hid (Hbq.out.trans (hbz.mono Hbq.out.size))
  have H3 := Lib.hid h3
  clear h3 hb2 hbz
  go_wp2_with (refine wpList_store_row rfl 27 (.tmp 4) (.tmp 19) rfl (w.heap.size + 1) #[.pointer p2] rfl rfl 27 #[.pointer none] Hrow2.out sizeTree rfl (one_ptr _) ?_)
  (try simp only [Exit.inBlock, Exit.then])
  refine bodyPost_ret (v := .agg #[.pointer p2]) (results_cell_row rfl _ _ (w.heap.size + 1) 27 #[.pointer p2] (0, 0) _ rfl (setRow_heap _ _ _ _ _ _ Hrow2.out) Try.underlying27 rfl sizeTree) rfl ⟨p2, rfl, ?_, setRow_below Hbz.out (by omega) _⟩
  exact H3.out.setRow Hrow2.out _

/-- Two new trees by value. -/
def Makes2T {α : Type} (kv : α → Value) (T : TypeId) (w : World) (t u : Tr α) (e : Ending) (w' : World) : Prop := ∃ p q, e = .returned (.tuple #[.agg #[.pointer p], .agg #[.pointer q]]) ∧ Is kv T w' p t ∧ Is kv T w' q u ∧ Below w.heap.size w w'
theorem results_row2 {P : Program} {fn : Func} {p q : Tmp} {ty : TypeId} (h : fn.results = #[.cell p ty, .cell q ty]) (tmps : Array Value) (w : World) (g1 g2 : Nat) (t : TypeId) (cs ds : Array Value) (fr : Nat × Nat) (d : TypeDesc)
    (hp : tmps.getD p undef = .pointer (some ⟨g1, 0, none⟩)) (hq : tmps.getD q undef = .pointer (some ⟨g2, 0, none⟩)) (hg1 : w.heap[g1]? = some (.cells cs t fr)) (hg2 : w.heap[g2]? = some (.cells ds t fr))
    (hu : P.underlying ty = some d) (hd : (match d with | .struct _ | .array _ _ => true | _ => false) = true) (hi : (P.info? ty).map (·.size) = some cs.size) (hi2 : ds.size = cs.size) :
    (results fn tmps).run P w = .ok (.tuple #[.agg cs, .agg ds]) w := by
  have hp' : tmps[p]?.getD undef = .pointer (some ⟨g1, 0, none⟩) := by simpa using hp
  have hq' : tmps[q]?.getD undef = .pointer (some ⟨g2, 0, none⟩) := by simpa using hq
  simp [results, h, hp', hq', asAddr, run_loadVar_row w g1 t ty cs fr d hg1 hu hd hi, run_loadVar_row w g2 t ty ds fr d hg2 hu hd (hi.trans (by rw [hi2])), Result.andThen]

set_option maxHeartbeats 1600000 in
set_option maxRecDepth 8000 in
theorem splitT_any (p : Option Addr) (t : Tr ByteArray) (k : ByteArray) (w : World) (h : Is Value.string 98 w p t) (hs : t.size ≤ 900000) :
    Calls Try.prog 23 #[.agg #[.pointer p], .string k] w (Makes2T Value.string 98 w (Tr.split (cmpS k) t).1 (Tr.split (cmpS k) t).2) := by
  have H := Lib.hid h
  have HS : Hid (∀ wq, Below w.heap.size w wq → Calls Try.prog 44 #[.pointer p, .func (.func 45) #[.agg #[.string k]] #[]] wq (Makes2 Value.string 98 wq (Tr.split (cmpS k) t).1 (Tr.split (cmpS k) t).2)) := fun wq hb => splitS_any k t p wq (H.out.below hb) (by omega)
  generalize Tr.split (cmpS k) t = T at HS ⊢
  clear h
  go_enter Try.func23, Try.ntmps23
  go_wp2_with fail
  generalize hwq : World.alloc (World.alloc (World.alloc _ _) _) _ = wq
  have hbq : Below w.heap.size w wq := by subst hwq; exact (((Below.refl _ _).alloc (Nat.le_refl _) _).alloc (by simp) _).alloc (by simp; omega) _
  have hsq : wq.heap.size = w.heap.size + 3 := by subst hwq; simp
  have hrow : wq.heap[w.heap.size + 1]? = some (.cells #[.pointer none] 27 (0, 0)) := by subst hwq; rw [heap_alloc_old _ _ (by simp)]; exact ptr_alloc_2 _ _ _
  have hrow' : wq.heap[w.heap.size + 1 + 1]? = some (.cells #[.pointer none] 27 (0, 0)) := by
    subst hwq
    have := heap_alloc_new ((w.alloc (.cells #[.pointer p] 27)).alloc (.cells #[.pointer none] 27)) (.cells #[.pointer none] 27)
    rwa [show ((w.alloc (.cells #[.pointer p] 27)).alloc (.cells #[.pointer none] 27)).heap.size = w.heap.size + 1 + 1 by simp] at this
  clear hwq
  have Hrow := Lib.hid hrow
  have Hrow' := Lib.hid hrow'
  have Hbq := Lib.hid hbq
  have Hsq := Lib.hid hsq
  clear hrow hrow' hbq hsq
  refine (HS.out wq Hbq.out).mono ?_
  rintro e w1 ⟨p1, q1, rfl, h1, h2, hb1⟩
  have Ha := Lib.hid ((hb1.block (w.heap.size + 1) (by have := Hsq.out; omega)).trans Hrow.out)
  have Hb := Lib.hid ((hb1.block (w.heap.size + 1 + 1) (by have := Hsq.out; omega)).trans Hrow'.out)
  have Hb' := Lib.hid ((setRow_other w1 (w.heap.size + 1) (w.heap.size + 1 + 1) #[.pointer p1] (by omega)).trans Hb.out)
  have HX : Hid (Makes2T Value.string 98 w T.1 T.2 (.returned (.tuple #[.agg #[.pointer p1], .agg #[.pointer q1]])) ((w1.setRow (w.heap.size + 1) #[.pointer p1]).setRow (w.heap.size + 1 + 1) #[.pointer q1])) :=
    ⟨p1, q1, rfl, (h1.setRow Ha.out _).setRow Hb'.out _, (h2.setRow Ha.out _).setRow Hb'.out _, setRow_below (setRow_below (Hbq.out.trans (hb1.mono Hbq.out.size)) (by omega) _) (by omega) _⟩
  have HF1 := Lib.hid ((setRow_other (w1.setRow (w.heap.size + 1) #[.pointer p1]) (w.heap.size + 1 + 1) (w.heap.size + 1) #[.pointer q1] (by omega)).trans (setRow_heap _ _ _ #[.pointer p1] _ _ Ha.out))
  have HF2 := Lib.hid (setRow_heap _ _ _ #[.pointer q1] _ _ Hb'.out)
  clear h1 h2 hb1
  go_wp2_with (first
    | (refine wpList_store_row rfl 27 (.tmp 4) (.tmp 18) rfl (w.heap.size + 1) #[.pointer p1] rfl rfl 27 #[.pointer none] Ha.out sizeTree rfl (one_ptr _) ?_)
    | (refine wpList_store_row rfl 27 (.tmp 5) (.tmp 20) rfl (w.heap.size + 1 + 1) #[.pointer q1] rfl rfl 27 #[.pointer none] Hb'.out sizeTree rfl (one_ptr _) ?_))
  (try simp only [Exit.inBlock, Exit.then])
  refine bodyPost_ret (v := .tuple #[.agg #[.pointer p1], .agg #[.pointer q1]]) (results_row2 rfl _ _ (w.heap.size + 1) (w.heap.size + 1 + 1) 27 #[.pointer p1] #[.pointer q1] (0, 0) _ rfl rfl HF1.out HF2.out Try.underlying27 rfl sizeTree rfl) rfl ?_
  exact HX.out
end Go.Proofs.Ytdffgkhlkbaecaa.Tok
