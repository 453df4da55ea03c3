/- Union-find by size, with undo: plain mathematics, and how it lies in memory. -/
import Derived.Test.YtdffgkhlkbaecaaMem
import Derived.WalkKit
import Derived.Laws.OwnMore
namespace Go.Proofs.Ytdffgkhlkbaecaa.Tok
open Go.RowKit

/-- An element: parent, size, least. -/
abbrev El := Nat × Nat × Nat
def elV (e : El) : List Value := [.int .i64 (e.1 : Nat), .int .i64 (e.2.1 : Nat), .int .i64 (e.2.2 : Nat)]
def flatE (E : List El) : List Value := E.flatMap elV
theorem flatE_len (E : List El) : (flatE E).length = E.length * 3 := by
  unfold flatE
  induction E with
  | nil => rfl
  | cons x l ih => rw [List.flatMap_cons, List.length_append, ih, List.length_cons]; show 3 + _ = _; omega
theorem flatE_get : ∀ (E : List El) (k i : Nat) (h : k < E.length), i < 3 → (flatE E)[k * 3 + i]? = (elV E[k])[i]?
  | [], _, _, h, _ => by simp at h
  | x :: l, 0, i, _, hi => by
    unfold flatE
    rw [List.flatMap_cons, List.getElem?_append_left (by show _ < 3; omega)]
    simp
  | x :: l, k + 1, i, h, hi => by
    have ih := flatE_get l k i (by simpa using h) hi
    unfold flatE at ih ⊢
    rw [List.flatMap_cons, List.getElem?_append_right (by show 3 ≤ _; omega), show (k + 1) * 3 + i - (elV x).length = k * 3 + i by show _ - 3 = _; omega, ih]
    simp
theorem flatE_set0 (p : Nat) : ∀ (E : List El) (k : Nat) (h : k < E.length), (flatE E).set (k * 3) (.int .i64 (p : Nat)) = flatE (E.set k (p, E[k].2))
  | [], _, h => by simp at h
  | x :: l, 0, _ => rfl
  | x :: l, k + 1, h => by
    have ih := flatE_set0 p l k (by simpa using h)
    unfold flatE at ih ⊢
    rw [List.flatMap_cons, List.set_append_right _ _ (by show 3 ≤ _; omega), show (k + 1) * 3 - (elV x).length = k * 3 by show _ - 3 = _; omega, ih]
    rfl
theorem flatE_set1 (p : Nat) : ∀ (E : List El) (k : Nat) (h : k < E.length), (flatE E).set (k * 3 + 1) (.int .i64 (p : Nat)) = flatE (E.set k (E[k].1, p, E[k].2.2))
  | [], _, h => by simp at h
  | x :: l, 0, _ => rfl
  | x :: l, k + 1, h => by
    have ih := flatE_set1 p l k (by simpa using h)
    unfold flatE at ih ⊢
    rw [List.flatMap_cons, List.set_append_right _ _ (by show 3 ≤ _; omega), show (k + 1) * 3 + 1 - (elV x).length = k * 3 + 1 by show _ - 3 = _; omega, ih]
    rfl
theorem flatE_set2 (p : Nat) : ∀ (E : List El) (k : Nat) (h : k < E.length), (flatE E).set (k * 3 + 2) (.int .i64 (p : Nat)) = flatE (E.set k (E[k].1, E[k].2.1, p))
  | [], _, h => by simp at h
  | x :: l, 0, _ => rfl
  | x :: l, k + 1, h => by
    have ih := flatE_set2 p l k (by simpa using h)
    unfold flatE at ih ⊢
    rw [List.flatMap_cons, List.set_append_right _ _ (by show 3 ≤ _; omega), show (k + 1) * 3 + 2 - (elV x).length = k * 3 + 2 by show _ - 3 = _; omega, ih]
    rfl

/-- The sizes of the roots together. -/
def con (i : Nat) (e : El) : Nat := if e.1 = i then e.2.1 else 0
def rsum : Nat → List El → Nat
  | _, [] => 0
  | i, e :: l => con i e + rsum (i + 1) l
theorem rsum_set : ∀ (l : List El) (i j : Nat) (h : j < l.length) (e : El), rsum i (l.set j e) + con (i + j) l[j] = rsum i l + con (i + j) e
  | [], _, _, h, _ => by simp at h
  | x :: l, i, 0, _, e => by simp only [List.set_cons_zero, rsum, List.getElem_cons_zero, Nat.add_zero]; omega
  | x :: l, i, j + 1, h, e => by
    have := rsum_set l (i + 1) j (by simpa using h) e
    rw [show i + 1 + j = i + (j + 1) by omega] at this
    simp only [List.set_cons_succ, rsum, List.getElem_cons_succ]
    omega
theorem rsum_one : ∀ (l : List El) (i j : Nat) (h : j < l.length), con (i + j) l[j] ≤ rsum i l
  | [], _, _, h => by simp at h
  | x :: l, i, 0, _ => by simp only [rsum, List.getElem_cons_zero, Nat.add_zero]; omega
  | x :: l, i, j + 1, h => by
    have := rsum_one l (i + 1) j (by simpa using h)
    rw [show i + 1 + j = i + (j + 1) by omega] at this
    simp only [rsum, List.getElem_cons_succ]
    omega
theorem rsum_two (l : List El) (j k : Nat) (hj : j < l.length) (hk : k < l.length) (h : j ≠ k) : con j l[j] + con k l[k] ≤ rsum 0 l := by
  have h1 := rsum_set l 0 j hj (j + 1, 0, 0)
  have h2 := rsum_one (l.set j (j + 1, 0, 0)) 0 k (by simpa using hk)
  rw [Nat.zero_add] at h1 h2
  rw [List.getElem_set_ne h] at h2
  have : con j (j + 1, 0, 0) = 0 := by simp [con]
  omega

/-- What unions keep. -/
structure Ok (E : List El) : Prop where
  par : ∀ a, (h : a < E.length) → E[a].1 < E.length
  up : ∀ a, (h : a < E.length) → E[a].1 ≠ a → ∀ h' : E[a].1 < E.length, E[a].2.1 < E[E[a].1].2.1
  pos : ∀ a, (h : a < E.length) → 1 ≤ E[a].2.1
  top : ∀ a, (h : a < E.length) → E[a].2.1 ≤ 10000
  sum : rsum 0 E ≤ 10000
  low : ∀ a, (h : a < E.length) → E[a].2.2 < E.length
def rootN (E : List El) : Nat → Nat → Nat
  | 0, a => a
  | f + 1, a => match E[a]? with
    | none => a
    | some e => if e.1 = a then a else rootN E f e.1
def root (E : List El) (a : Nat) : Nat := rootN E 10001 a
section
variable {E : List El}
theorem rootN_more (ok : Ok E) : ∀ (n a : Nat) (ha : a < E.length) (m : Nat), 10000 - E[a].2.1 < n → n ≤ m → rootN E m a = rootN E n a
  | 0, _, _, _, h, _ => by omega
  | n + 1, a, ha, 0, _, hm => by omega
  | n + 1, a, ha, m + 1, h, hm => by
    simp only [rootN, List.getElem?_eq_getElem ha]
    by_cases h1 : E[a].1 = a
    · rw [if_pos h1, if_pos h1]
    · rw [if_neg h1, if_neg h1]
      have hp := ok.par a ha
      have h2 := ok.up a ha h1 hp
      have h3 := ok.top _ hp
      exact rootN_more ok n _ hp m (by omega) (by omega)
theorem rootN_succ (f : Nat) {a : Nat} (ha : a < E.length) : rootN E (f + 1) a = if E[a].1 = a then a else rootN E f E[a].1 := by
  show (match E[a]? with | none => a | some e => if e.1 = a then a else rootN E f e.1) = _
  rw [List.getElem?_eq_getElem ha]
theorem root_self {a : Nat} (ha : a < E.length) (h : E[a].1 = a) : root E a = a := by
  show rootN E (10000 + 1) a = a
  rw [rootN_succ 10000 ha, if_pos h]
theorem root_up (ok : Ok E) {a : Nat} (ha : a < E.length) (h : E[a].1 ≠ a) : root E a = root E E[a].1 := by
  have hp := ok.par a ha
  have h2 := ok.up a ha h hp
  have h3 := ok.top _ hp
  have h4 := ok.pos a ha
  show rootN E (10000 + 1) a = _
  rw [rootN_succ 10000 ha, if_neg h]
  exact (rootN_more ok 10000 _ hp 10001 (by omega) (by omega)).symm
theorem root_is (ok : Ok E) : ∀ (n a : Nat) (ha : a < E.length), 10000 - E[a].2.1 < n → ∃ h : root E a < E.length, (E[root E a]).1 = root E a
  | 0, _, _, h => by omega
  | n + 1, a, ha, h => by
    by_cases h1 : E[a].1 = a
    · rw [root_self ha h1]; exact ⟨ha, h1⟩
    · rw [root_up ok ha h1]
      have hp := ok.par a ha
      have h2 := ok.up a ha h1 hp
      have h3 := ok.top _ hp
      exact root_is ok n _ hp (by omega)
theorem root_ok (ok : Ok E) {a : Nat} (ha : a < E.length) : ∃ h : root E a < E.length, (E[root E a]).1 = root E a := root_is ok _ a ha (Nat.lt_succ_self _)
end
/-- The elements at the beginning. -/
def ones : Nat → List El
  | 0 => []
  | n + 1 => ones n ++ [(n, 1, n)]
theorem ones_len (n : Nat) : (ones n).length = n := by
  induction n with
  | zero => rfl
  | succ n ih => simp [ones, ih]
theorem ones_get (n a : Nat) (h : a < (ones n).length) : (ones n)[a] = (a, 1, a) := by
  induction n with
  | zero => simp [ones] at h
  | succ n ih =>
    have hl := ones_len n
    simp only [ones]
    rcases Nat.lt_or_ge a (ones n).length with h1 | h1
    · rw [List.getElem_append_left h1]; exact ih h1
    · have : a = n := by rw [ones_len] at h; omega
      subst this
      rw [List.getElem_append_right h1]
      simp
theorem rsum_append : ∀ (l m : List El) (i : Nat), rsum i (l ++ m) = rsum i l + rsum (i + l.length) m
  | [], m, i => by simp [rsum]
  | x :: l, m, i => by simp only [List.cons_append, rsum, rsum_append l m, List.length_cons]; rw [show i + 1 + l.length = i + (l.length + 1) by omega]; omega
theorem rsum_ones (n : Nat) : rsum 0 (ones n) = n := by
  induction n with
  | zero => rfl
  | succ n ih => simp only [ones, rsum_append, ih, ones_len, rsum, con]; simp
theorem ones_ok {n : Nat} (h : n ≤ 10000) : Ok (ones n) where
  par := fun a ha => by rw [ones_get n a ha]; exact ha
  up := fun a ha h1 => by rw [ones_get n a ha] at h1; exact absurd rfl h1
  pos := fun a ha => by rw [ones_get n a ha]; exact Nat.le_refl _
  top := fun a ha => by rw [ones_get n a ha]; show 1 ≤ 10000; omega
  sum := by rw [rsum_ones]; exact h
  low := fun a ha => by rw [ones_get n a ha]; exact ha

/-- Two roots become one. -/
def uni (E : List El) (u l : Nat) : List El := match E[u]?, E[l]? with
  | some eu, some el => (E.set l (u, el.2)).set u (eu.1, eu.2.1 + el.2.1, min eu.2.2 el.2.2)
  | _, _ => E
theorem uni_eq {E : List El} {u l : Nat} (hu : u < E.length) (hl : l < E.length) : uni E u l = (E.set l (u, E[l].2)).set u (E[u].1, E[u].2.1 + E[l].2.1, min E[u].2.2 E[l].2.2) := by
  unfold uni
  rw [List.getElem?_eq_getElem hu, List.getElem?_eq_getElem hl]
theorem uni_len (E : List El) (u l : Nat) : (uni E u l).length = E.length := by
  unfold uni
  split <;> simp
theorem uni_get {E : List El} {u l a : Nat} (hu : u < E.length) (hl : l < E.length) (ha : a < E.length) (hul : u ≠ l) (h' : a < (uni E u l).length) :
    (uni E u l)[a] = if a = u then (E[u].1, E[u].2.1 + E[l].2.1, min E[u].2.2 E[l].2.2) else if a = l then (u, E[l].2) else E[a] := by
  have e := uni_eq hu hl
  rw [List.getElem_of_eq e]
  by_cases h1 : a = u
  · subst h1; simp
  · rw [if_neg h1, List.getElem_set_ne (by omega)]
    by_cases h2 : a = l
    · subst h2; simp
    · rw [if_neg h2, List.getElem_set_ne (by omega)]
theorem uni_ok {E : List El} (ok : Ok E) {u l : Nat} (hu : u < E.length) (hl : l < E.length) (hul : u ≠ l) (ru : E[u].1 = u) (rl : E[l].1 = l) (hsz : E[l].2.1 ≤ E[u].2.1) : Ok (uni E u l) := by
  have hn := uni_len E u l
  have htwo := rsum_two E u l hu hl hul
  simp only [con] at htwo
  rw [if_pos ru, if_pos rl] at htwo
  have hs := ok.sum
  have pu := ok.pos u hu
  have pl := ok.pos l hl
  refine ⟨fun a ha => ?_, fun a ha h1 h' => ?_, fun a ha => ?_, fun a ha => ?_, ?_, fun a ha => ?_⟩
  · have ha' : a < E.length := by omega
    rw [uni_get hu hl ha' hul ha, hn]
    split
    · show E[u].1 < _; rw [ru]; exact hu
    · split
      · exact hu
      · exact ok.par a ha'
  · have ha' : a < E.length := by omega
    have hg := uni_get hu hl ha' hul ha
    by_cases e1 : a = u
    · rw [hg, if_pos e1] at h1
      rw [e1] at h1
      exact absurd ru h1
    · by_cases e2 : a = l
      · have h2 : (uni E u l)[a].1 = u := by rw [hg, if_neg e1, if_pos e2]
        have h3 := uni_get hu hl hu hul (by omega)
        rw [if_pos rfl] at h3
        have h4 : (uni E u l)[a].2.1 = E[l].2.1 := by rw [hg, if_neg e1, if_pos e2]
        have h5 : (uni E u l)[(uni E u l)[a].1].2.1 = E[u].2.1 + E[l].2.1 := by simp only [h2, h3]
        omega
      · rw [hg, if_neg e1, if_neg e2] at h1
        have hp := ok.par a ha'
        have hk := ok.up a ha' h1 hp
        have h2 : (uni E u l)[a] = E[a] := by rw [hg, if_neg e1, if_neg e2]
        have h3 := uni_get hu hl hp hul (by omega)
        have h4 : (uni E u l)[(uni E u l)[a].1].2.1 = (if E[a].1 = u then (E[u].1, E[u].2.1 + E[l].2.1, min E[u].2.2 E[l].2.2) else if E[a].1 = l then (u, E[l].2) else E[E[a].1]).2.1 := by simp only [h2, h3]
        rw [h4, h2]
        by_cases g1 : E[a].1 = u
        · rw [if_pos g1]
          simp only [g1] at hk
          show _ < E[u].2.1 + E[l].2.1
          omega
        · rw [if_neg g1]
          by_cases g2 : E[a].1 = l
          · rw [if_pos g2]
            simp only [g2] at hk
            exact hk
          · rw [if_neg g2]
            exact hk
  · have ha' : a < E.length := by omega
    rw [uni_get hu hl ha' hul ha]
    split
    · show 1 ≤ E[u].2.1 + E[l].2.1; omega
    · split
      · exact pl
      · exact ok.pos a ha'
  · have ha' : a < E.length := by omega
    rw [uni_get hu hl ha' hul ha]
    split
    · show E[u].2.1 + E[l].2.1 ≤ 10000; omega
    · split
      · exact ok.top l hl
      · exact ok.top a ha'
  · rw [uni_eq hu hl]
    have a1 := rsum_set E 0 l hl (u, E[l].2)
    have a2 := rsum_set (E.set l (u, E[l].2)) 0 u (by simpa using hu) (E[u].1, E[u].2.1 + E[l].2.1, min E[u].2.2 E[l].2.2)
    rw [Nat.zero_add] at a1 a2
    rw [List.getElem_set_ne (by omega)] at a2
    have b1 : con l E[l] = E[l].2.1 := if_pos rl
    have b2 : con l (u, E[l].2) = 0 := if_neg (by show u ≠ l; exact hul)
    have b3 : con u E[u] = E[u].2.1 := if_pos ru
    have b4 : con u (E[u].1, E[u].2.1 + E[l].2.1, min E[u].2.2 E[l].2.2) = E[u].2.1 + E[l].2.1 := if_pos ru
    omega
  · have ha' : a < E.length := by omega
    have lu := ok.low u hu
    rw [uni_get hu hl ha' hul ha, hn]
    split
    · show min E[u].2.2 E[l].2.2 < _; omega
    · split
      · exact ok.low l hl
      · exact ok.low a ha'

/-- The elements in their block. -/
def ERow (T : TypeId) (w : World) (eb : Nat) (E : List El) : Prop := ∃ cs : Array Value, w.heap[eb]? = some (.cells cs T (0, 0)) ∧ cs.toList = flatE E
section
variable {T : TypeId} {w w' : World} {eb : Nat} {E : List El}
theorem ERow.keep (h : ERow T w eb E) (hk : w'.heap[eb]? = w.heap[eb]?) : ERow T w' eb E := by
  obtain ⟨cs, h1, h2⟩ := h
  exact ⟨cs, hk.trans h1, h2⟩
theorem ERow.cell (h : ERow T w eb E) {k : Nat} (hk : k < E.length) (i : Nat) (hi : i < 3) : w.cell? ⟨eb, k * 3 + i, none⟩ = (elV E[k])[i]? := by
  obtain ⟨cs, h1, h2⟩ := h
  rw [cell_of_row _ _ _ _ _ _ h1, ← flatE_get E k i hk hi, ← h2]
  simp
theorem ERow.frozen (h : ERow T w eb E) (j : Nat) : w.frozen? ⟨eb, j, none⟩ = false := by
  obtain ⟨cs, h1, _⟩ := h
  exact frozen_of_row w eb j cs T h1
theorem ERow.set (h : ERow T w eb E) {j : Nat} {v : Value} {E' : List El} (he : (flatE E).set j v = flatE E') : ERow T (w.setCell ⟨eb, j, none⟩ v) eb E' := by
  obtain ⟨cs, h1, h2⟩ := h
  refine ⟨cs.setIfInBounds j v, heap_setCell_same w eb j cs T v h1, ?_⟩
  rw [Array.toList_setIfInBounds, h2, he]
theorem ERow.set0 (h : ERow T w eb E) {k : Nat} (hk : k < E.length) (p : Nat) : ERow T (w.setCell ⟨eb, k * 3, none⟩ (.int .i64 (p : Nat))) eb (E.set k (p, E[k].2)) := h.set (flatE_set0 p E k hk)
theorem ERow.set1 (h : ERow T w eb E) {k : Nat} (hk : k < E.length) (p : Nat) : ERow T (w.setCell ⟨eb, k * 3 + 1, none⟩ (.int .i64 (p : Nat))) eb (E.set k (E[k].1, p, E[k].2.2)) := h.set (flatE_set1 p E k hk)
theorem ERow.set2 (h : ERow T w eb E) {k : Nat} (hk : k < E.length) (p : Nat) : ERow T (w.setCell ⟨eb, k * 3 + 2, none⟩ (.int .i64 (p : Nat))) eb (E.set k (E[k].1, E[k].2.1, p)) := h.set (flatE_set2 p E k hk)
theorem ERow.set3 (h : ERow T w eb E) {k : Nat} (hk : k < E.length) (a b c : Nat) : ERow T (((w.setCell ⟨eb, k * 3, none⟩ (.int .i64 (a : Nat))).setCell ⟨eb, k * 3 + 1, none⟩ (.int .i64 (b : Nat))).setCell ⟨eb, k * 3 + 2, none⟩ (.int .i64 (c : Nat))) eb (E.set k (a, b, c)) := by
  have h1 := h.set0 hk a
  have h2 := h1.set1 (k := k) (by simpa using hk) b
  have h3 := h2.set2 (k := k) (by simpa using hk) c
  simpa using h3
theorem ERow.lt (h : ERow T w eb E) : eb < w.heap.size := by
  obtain ⟨cs, h1, _⟩ := h
  exact (Array.getElem?_eq_some_iff.1 h1).1
end
end Go.Proofs.Ytdffgkhlkbaecaa.Tok
