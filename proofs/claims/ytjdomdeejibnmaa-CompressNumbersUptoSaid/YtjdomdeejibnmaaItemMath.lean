/- The items of a code, as a run over its numbers: plain mathematics. -/
import Derived.Test.YtjdomdeejibnmaaNumsOk
import Derived.Test.YtjdomdeejibnmaaLabels
import Derived.Test.YtjdomdeejibnmaaMand
import Derived.Test.YtjdomdeejibnmaaAppend
namespace Go.Proofs.Ytjdomdeejibnmaa.Tok
open Go.RowKit Go.Proofs.Ytjdomdeejibnmaa

/-- An item: label, back, unknown, saved; its four cells. -/
abbrev Itm := ByteArray × Int × Bool × Bool
def itmV (x : Itm) : List Value := [.string x.1, .int .i64 x.2.1, .bool x.2.2.1, .bool x.2.2.2]
def itmC (l : List Itm) : List Value := l.flatMap itmV
def svC (l : List Nat) : List Value := l.map fun s => Value.int .i64 (s : Nat)
theorem itmC_nil : itmC [] = [] := rfl
theorem svC_nil : svC [] = [] := rfl
theorem itmC_snoc (l : List Itm) (x : Itm) : itmC l ++ itmV x = itmC (l ++ [x]) := by unfold itmC; rw [List.flatMap_append]; simp
theorem svC_snoc (l : List Nat) (x : Nat) : svC l ++ [Value.int .i64 (x : Nat)] = svC (l ++ [x]) := by unfold svC; simp
theorem itmC_len (l : List Itm) : (itmC l).length = l.length * 4 := by
  unfold itmC
  induction l with
  | nil => rfl
  | cons x l ih => rw [List.flatMap_cons, List.length_append, ih, List.length_cons]; show 4 + _ = _; omega
def markI (x : Itm) : Itm := (x.1, x.2.1, x.2.2.1, true)
def markLast (l : List Itm) : List Itm := match l.getLast? with
  | none => []
  | some x => l.dropLast ++ [markI x]
theorem markLast_snoc (l : List Itm) (x : Itm) : markLast (l ++ [x]) = l ++ [markI x] := by simp [markLast]
theorem markLast_len (l : List Itm) : (markLast l).length = l.length := by
  rcases List.eq_nil_or_concat l with rfl | ⟨l', x, rfl⟩
  · rfl
  · rw [List.concat_eq_append, markLast_snoc]; simp
theorem markLast_cells {l : List Itm} (h : 0 < l.length) : (itmC l).set ((l.length - 1) * 4 + 3) (.bool true) = itmC (markLast l) := by
  rcases List.eq_nil_or_concat l with rfl | ⟨l', x, rfl⟩
  · simp at h
  · rw [List.concat_eq_append, markLast_snoc, ← itmC_snoc, ← itmC_snoc]
    have hl : (itmC l').length = (l' ++ [x]).length * 4 - 4 := by rw [itmC_len]; simp; omega
    rw [List.set_append_right _ _ (by rw [hl]; simp; omega), hl, show ((l' ++ [x]).length - 1) * 4 + 3 - ((l' ++ [x]).length * 4 - 4) = 3 by simp; omega]
    rfl

/-- One number. -/
def stepI (hs : List HypT) (lb : List ByteArray) (n : Int) (its : List Itm) (sv : List Nat) : Option (List Itm × List Nat) :=
  if n = 0 then some (markLast its, sv ++ [its.length - 1])
  else if n = -1 then some (its ++ [((⟨#[]⟩ : ByteArray), -1, true, false)], sv)
  else if n ≤ hs.length then some (its ++ [((hs.getD (n - 1).toNat (⟨#[]⟩, false, none, 0, 0)).1, -1, false, false)], sv)
  else if n - hs.length ≤ lb.length then some (its ++ [(lb.getD (n - hs.length - 1).toNat ⟨#[]⟩, -1, false, false)], sv)
  else if n - hs.length - lb.length ≤ sv.length then some (its ++ [((⟨#[]⟩ : ByteArray), ((sv.getD (n - hs.length - lb.length - 1).toNat 0 : Nat) : Int), false, false)], sv)
  else none
def runI (hs : List HypT) (lb : List ByteArray) : List Int → List Itm → List Nat → Option (List Itm)
  | [], its, _ => some its
  | n :: r, its, sv => match stepI hs lb n its sv with
    | none => none
    | some st => runI hs lb r st.1 st.2
theorem runI_nil (hs : List HypT) (lb : List ByteArray) (its : List Itm) (sv : List Nat) : runI hs lb [] its sv = some its := rfl
theorem runI_some {hs : List HypT} {lb : List ByteArray} {n : Int} {r : List Int} {its its' : List Itm} {sv sv' : List Nat} (h : stepI hs lb n its sv = some (its', sv')) : runI hs lb (n :: r) its sv = runI hs lb r its' sv' := by
  show (match stepI hs lb n its sv with | none => none | some st => runI hs lb r st.1 st.2) = _
  rw [h]
theorem runI_none {hs : List HypT} {lb : List ByteArray} {n : Int} {r : List Int} {its : List Itm} {sv : List Nat} (h : stepI hs lb n its sv = none) : runI hs lb (n :: r) its sv = none := by
  show (match stepI hs lb n its sv with | none => none | some st => runI hs lb r st.1 st.2) = _
  rw [h]
section
variable {hs : List HypT} {lb : List ByteArray} {n : Int} {its : List Itm} {sv : List Nat}
theorem stepI_save (h : n = 0) : stepI hs lb n its sv = some (markLast its, sv ++ [its.length - 1]) := by unfold stepI; rw [if_pos h]
theorem stepI_unknown (h : n = -1) : stepI hs lb n its sv = some (its ++ [((⟨#[]⟩ : ByteArray), -1, true, false)], sv) := by unfold stepI; rw [if_neg (by omega), if_pos h]
theorem stepI_hyp (j : Nat) (hj : j < hs.length) (h : n = (j : Int) + 1) : stepI hs lb n its sv = some (its ++ [(hs[j].1, -1, false, false)], sv) := by
  unfold stepI
  rw [if_neg (by omega), if_neg (by omega), if_pos (by omega), show (n - 1).toNat = j by omega]
  simp [hj]
theorem stepI_lab (j : Nat) (hj : j < lb.length) (h : n = (hs.length : Int) + j + 1) : stepI hs lb n its sv = some (its ++ [(lb[j], -1, false, false)], sv) := by
  unfold stepI
  rw [if_neg (by omega), if_neg (by omega), if_neg (by omega), if_pos (by omega), show (n - hs.length - 1).toNat = j by omega]
  simp [hj]
theorem stepI_back (j : Nat) (hj : j < sv.length) (h : n = (hs.length : Int) + lb.length + j + 1) : stepI hs lb n its sv = some (its ++ [((⟨#[]⟩ : ByteArray), ((sv[j] : Nat) : Int), false, false)], sv) := by
  unfold stepI
  rw [if_neg (by omega), if_neg (by omega), if_neg (by omega), if_neg (by omega), if_pos (by omega), show (n - hs.length - lb.length - 1).toNat = j by omega]
  simp [hj]
theorem stepI_none (h : n ≠ 0) (h1 : n ≠ -1) (h2 : (hs.length : Int) + lb.length + sv.length < n) : stepI hs lb n its sv = none := by
  unfold stepI
  rw [if_neg h, if_neg h1, if_neg (by omega), if_neg (by omega), if_neg (by omega)]
end

open Classical in
/-- The items, and the error. -/
noncomputable def itemsF (hs : List HypT) (lb : List ByteArray) (l : List Int) : List Itm × Nat :=
  if LabsOk lb ∧ ¬ Mand hs lb then
    if NumOk l then match runI hs lb l [] [] with
      | none => ([], 21)
      | some its => if 2000 < its.length then ([], 10) else (its, 0)
    else ([], 21)
  else ([], 20)
section
variable {hs : List HypT} {lb : List ByteArray} {l : List Int}
theorem itemsF_list (h : ¬ (LabsOk lb ∧ ¬ Mand hs lb)) : itemsF hs lb l = ([], 20) := by unfold itemsF; rw [if_neg h]
theorem itemsF_code (h : LabsOk lb ∧ ¬ Mand hs lb) (h1 : ¬ NumOk l) : itemsF hs lb l = ([], 21) := by unfold itemsF; rw [if_pos h, if_neg h1]
theorem itemsF_none (h : LabsOk lb ∧ ¬ Mand hs lb) (h1 : NumOk l) (h2 : runI hs lb l [] [] = none) : itemsF hs lb l = ([], 21) := by unfold itemsF; rw [if_pos h, if_pos h1, h2]
theorem itemsF_many (h : LabsOk lb ∧ ¬ Mand hs lb) (h1 : NumOk l) {its : List Itm} (h2 : runI hs lb l [] [] = some its) (h3 : 2000 < its.length) : itemsF hs lb l = ([], 10) := by
  unfold itemsF
  rw [if_pos h, if_pos h1, h2]
  exact if_pos h3
theorem itemsF_ok (h : LabsOk lb ∧ ¬ Mand hs lb) (h1 : NumOk l) {its : List Itm} (h2 : runI hs lb l [] [] = some its) (h3 : ¬ 2000 < its.length) : itemsF hs lb l = (its, 0) := by
  unfold itemsF
  rw [if_pos h, if_pos h1, h2]
  exact if_neg h3
end
/-- What a right number says, next to the one ahead. -/
theorem NumOk.at {l : List Int} (h : NumOk l) {k : Nat} (hk : k < l.length) : -1 ≤ l[k] ∧ l[k] ≤ 1000000 ∧ (l[k] = 0 → 0 < lastOf (l.take k)) := by
  have h1 := h k hk hk
  unfold numAt at h1
  simp only [Bool.and_eq_true, decide_eq_true_eq, Bool.not_eq_true', Bool.and_eq_false_iff, beq_eq_false_iff_ne, decide_eq_false_iff_not] at h1
  obtain ⟨⟨a, b⟩, c⟩ := h1
  refine ⟨a, b, fun h0 => ?_⟩
  rcases c with c | c
  · exact absurd h0 c
  · omega

/-- Between two rounds of a loop over the numbers. -/
structure ItRel (hs : List HypT) (lb : List ByteArray) (l : List Int) (T I : TypeId) (B : Nat) (w1 : World) (v u : Value) (k : Nat) (its : List Itm) (sv : List Nat) (wr : World) : Prop where
  eq : runI hs lb l [] [] = runI hs lb (l.drop k) its sv
  ni : its.length ≤ k
  ns : sv.length ≤ k
  pos : 0 < lastOf (l.take k) → 0 < its.length
  own : wr.ownsRow B T 4 v its.length (itmC its)
  sav : wr.ownsRow B I 1 u sv.length (svC sv)
  bel : Below B w1 wr
  siz : B ≤ wr.heap.size
theorem own_apart' {w : World} {b b' : Nat} {e e' : TypeId} {z z' n n' : Nat} {v v' : Value} {xs xs' : List Value} (h : w.ownsRow b e z v n xs) (h' : w.ownsRow b' e' z' v' n' xs') (hne : e ≠ e') : v.ownBlock = none ∨ v.ownBlock ≠ v'.ownBlock := by
  rcases h.2 with ⟨rfl, _⟩ | ⟨g, cap, cur, rfl, _, h1, _⟩
  · exact .inl rfl
  · right
    intro he
    rcases h'.2 with ⟨rfl, _⟩ | ⟨g', cap', cur', rfl, _, h1', _⟩
    · cases he
    · injection he with he
      subst he
      rw [h1] at h1'
      injection h1' with h1'
      injection h1' with _ h2
      exact hne h2
section
variable {hs : List HypT} {lb : List ByteArray} {l : List Int} {T I : TypeId} {B k : Nat} {w1 wr wa w3 : World} {v v2 u u2 : Value} {its : List Itm} {sv : List Nat} {x : Itm}
theorem ItRel.start (w : World) : ItRel hs lb l T I w.heap.size w (.slice none 0 0) (.slice none 0 0) 0 [] [] w :=
  ⟨by rw [List.drop_zero], Nat.le_refl _, Nat.le_refl _, fun h => by rw [List.take_zero, lastOf_nil] at h; omega, World.ownsRow_nil _ _ _ _, World.ownsRow_nil _ _ _ _, Below.refl _ _, Nat.le_refl _⟩
theorem ItRel.pushed (h : ItRel hs lb l T I B w1 v u k its sv wr) (hTI : T ≠ I) {n : Int} (hdr : l.drop k = n :: l.drop (k + 1)) (hst : stepI hs lb n its sv = some (its ++ [x], sv)) (ha : Below wr.heap.size wr wa) (hg : wa.grownBy w3 v.ownBlock)
    (ho : w3.ownsRow B T 4 v2 (its.length + 1) (itmC its ++ itmV x)) : ItRel hs lb l T I B w1 v2 u (k + 1) (its ++ [x]) sv w3 := by
  have hni := h.ni
  have hns := h.ns
  have hz := h.siz
  have hz2 := ha.size
  have hz3 := hg.size
  refine ⟨h.eq.trans (by rw [hdr, runI_some hst]), by simp; omega, by omega, fun _ => by simp, ?_, ?_, ?_, by omega⟩
  · rw [← itmC_snoc, List.length_append]
    exact ho
  · exact (own_below h.sav ha).kept hg (own_apart' (own_below h.sav ha) (own_below h.own ha) hTI.symm)
  · exact (h.bel.trans (ha.mono h.siz)).grown hg (by omega) (fun q hq => (h.own.lt q hq).1)
theorem ItRel.saved {g cap : Nat} (h : ItRel hs lb l T I B w1 (.slice (some ⟨g, 0, none⟩) its.length cap) u k its sv wr) (hTI : T ≠ I) (hdr : l.drop k = 0 :: l.drop (k + 1)) {p : Nat} (hp : its.length = p + 1)
    (ha : Below wr.heap.size (wr.setCell ⟨g, p * 4 + 3, none⟩ (.bool true)) wa) (hg : wa.grownBy w3 u.ownBlock)
    (ho : w3.ownsRow B I 1 u2 (sv.length + 1) (svC sv ++ [.int .i64 (p : Nat)])) : ItRel hs lb l T I B w1 (.slice (some ⟨g, 0, none⟩) its.length cap) u2 (k + 1) (markLast its) (sv ++ [p]) w3 := by
  have hni := h.ni
  have hns := h.ns
  have hz := h.siz
  have hz2 := ha.size
  have hz3 := hg.size
  rw [World.size_setCell] at hz2
  obtain ⟨s1, s2⟩ := h.own.stored (p * 4 + 3) (.bool true)
  have hsav := h.sav.kept s2 (own_apart' h.sav h.own hTI.symm)
  have ha' : Below (wr.setCell ⟨g, p * 4 + 3, none⟩ (.bool true)).heap.size (wr.setCell ⟨g, p * 4 + 3, none⟩ (.bool true)) wa := by rw [World.size_setCell]; exact ha
  have hp1 : its.length - 1 = p := by omega
  refine ⟨h.eq.trans (by rw [hdr, runI_some (stepI_save rfl), hp1]), by rw [markLast_len]; omega, by simp; omega, fun _ => by rw [markLast_len]; omega, ?_, ?_, ?_, by omega⟩
  · have h1 := (own_below s1 ha').kept hg (own_apart' (own_below s1 ha') (own_below hsav ha') hTI)
    rw [markLast_len, ← markLast_cells (by omega), hp1]
    exact h1
  · rw [← svC_snoc, List.length_append]
    exact ho
  · exact ((h.bel.setCell (by exact (h.own.lt g rfl).1) _).trans (ha.mono h.siz)).grown hg (by omega) (fun q hq => (h.sav.lt q hq).1)
end
theorem item_new2 (w : World) (o : Obj) (t : TypeId) (a b c d : Value) {j : Nat} {u : Value} (h : [a, b, c, d][j]? = some u) : ((w.alloc o).alloc (.cells #[a, b, c, d] t)).cell? ((⟨w.heap.size + 1, 0, none⟩ : Addr).add j) = some u := by
  have h1 := heap_alloc_new (w.alloc o) (.cells #[a, b, c, d] t)
  rw [show (w.alloc o).heap.size = w.heap.size + 1 by simp] at h1
  rw [add_zero_block, cell_of_row _ _ _ _ _ _ h1]
  simpa using h
theorem item_new1 (w : World) (t : TypeId) (a b c d : Value) {j : Nat} {u : Value} (h : [a, b, c, d][j]? = some u) : (w.alloc (.cells #[a, b, c, d] t)).cell? ((⟨w.heap.size, 0, none⟩ : Addr).add j) = some u := by
  rw [add_zero_block, cell_of_row _ _ _ _ _ _ (heap_alloc_new w _)]
  simpa using h
theorem one_item (a : ByteArray) (b : Int) (c d : Bool) : ∀ u ∈ [Value.string a, Value.int .i64 b, Value.bool c, Value.bool d], u.oneCell' = true := by
  intro u hu
  simp only [List.mem_cons, List.not_mem_nil, or_false] at hu
  rcases hu with rfl | rfl | rfl | rfl <;> rfl
theorem int_new1 (w : World) (t : TypeId) (a : Value) {j : Nat} {u : Value} (h : [a][j]? = some u) : (w.alloc (.cells #[a] t)).cell? ((⟨w.heap.size, 0, none⟩ : Addr).add j) = some u := by
  rw [add_zero_block, cell_of_row _ _ _ _ _ _ (heap_alloc_new w _)]
  simpa using h
theorem one_intc (a : Int) : ∀ u ∈ [Value.int .i64 a], u.oneCell' = true := by
  intro u hu
  simp only [List.mem_cons, List.not_mem_nil, or_false] at hu
  subst hu
  rfl
end Go.Proofs.Ytjdomdeejibnmaa.Tok
