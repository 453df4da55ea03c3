/- Undoing a union, plain mathematics. -/
import Derived.Test.YtdffgkhlkbaecaaSetsMath
import Derived.Test.YtdffgkhlkbaecaaUnion
namespace Go.Proofs.Ytdffgkhlkbaecaa.Tok
open Go.RowKit

/-- One union undone: the number that was linked, what the other's least was. -/
def undo1 (E : List El) (l x : Nat) : List El := match E[l]? with
  | some e => match E[e.1]? with
    | some f => (E.set l (l, e.2)).set e.1 (f.1, f.2.1 - e.2.1, x)
    | none => E
  | none => E
theorem undo1_uni {E : List El} {u l : Nat} (hu : u < E.length) (hl : l < E.length) (hul : u ≠ l) (rl : E[l].1 = l) : undo1 (uni E u l) l (leastOf E u) = E := by
  have hx : leastOf E u = E[u].2.2 := by simp [leastOf, hu]
  have e1 : (uni E u l)[l]? = some (u, E[l].2) := by
    rw [uni_eq hu hl, List.getElem?_set_ne hul, List.getElem?_set_self hl]
  have e2 : (uni E u l)[u]? = some (E[u].1, E[u].2.1 + E[l].2.1, min E[u].2.2 E[l].2.2) := by
    rw [uni_eq hu hl, List.getElem?_set_self (by simpa using hu)]
  unfold undo1
  rw [e1]
  simp only
  rw [e2]
  simp only
  rw [hx, uni_eq hu hl]
  apply List.ext_getElem?
  intro k
  by_cases k1 : k = u
  · subst k1
    rw [List.getElem?_set_self (by simpa using hu), List.getElem?_eq_getElem hu]
    congr 1
    refine Prod.ext rfl (Prod.ext ?_ rfl)
    show E[k].2.1 + E[l].2.1 - E[l].2.1 = E[k].2.1
    omega
  · rw [List.getElem?_set_ne (fun e => k1 e.symm)]
    by_cases k2 : k = l
    · subst k2
      rw [List.getElem?_set_self (by simpa using hl), List.getElem?_eq_getElem hl]
      congr 1
      exact Prod.ext rl.symm rfl
    · rw [List.getElem?_set_ne (fun e => k2 e.symm), List.getElem?_set_ne (fun e => k1 e.symm), List.getElem?_set_ne (fun e => k2 e.symm)]

/-- How the elements came to be. -/
inductive Past (n : Nat) : List El → List (Nat × Nat) → Prop
  | start : Past n (ones n) []
  | link {E : List El} {U : List (Nat × Nat)} {u l : Nat} (h : Past n E U) (hu : u < E.length) (hl : l < E.length) (hul : u ≠ l) (ru : E[u].1 = u) (rl : E[l].1 = l) (hs : E[l].2.1 ≤ E[u].2.1) : Past n (uni E u l) (U ++ [(l, leastOf E u)])
theorem Past.len {n : Nat} {E : List El} {U : List (Nat × Nat)} (h : Past n E U) : E.length = n := by
  induction h with
  | start => exact ones_len n
  | link h hu hl hul ru rl hs ih => rw [uni_len]; exact ih
theorem Past.ok {n : Nat} {E : List El} {U : List (Nat × Nat)} (hn : n ≤ 10000) (h : Past n E U) : Ok E := by
  induction h with
  | start => exact ones_ok hn
  | link h hu hl hul ru rl hs ih => exact uni_ok ih hu hl hul ru rl hs
theorem Past.back {n : Nat} {E : List El} {U : List (Nat × Nat)} (h : Past n E U) : ∀ (V : List (Nat × Nat)) (l x : Nat), U = V ++ [(l, x)] → ∃ u, u < n ∧ l < n ∧ u ≠ l ∧ (E[l]?).map (·.1) = some u ∧ Past n (undo1 E l x) V := by
  intro V l x e
  cases h with
  | start => simp at e
  | @link E' U' u' l' h hu hl hul ru rl hs =>
    have e' := List.append_inj' e rfl
    obtain ⟨rfl, e2⟩ := e'
    simp at e2
    obtain ⟨rfl, rfl⟩ := e2
    have hn := h.len
    refine ⟨u', by omega, by omega, hul, ?_, ?_⟩
    · rw [uni_eq hu hl, List.getElem?_set_ne hul, List.getElem?_set_self hl]
      rfl
    · rw [undo1_uni hu hl hul rl]
      exact h
/-- What came behind a state. -/
inductive Chain (E0 : List El) (U0 : List (Nat × Nat)) : List El → List (Nat × Nat) → Prop
  | here : Chain E0 U0 E0 U0
  | link {E : List El} {U : List (Nat × Nat)} {u l : Nat} (h : Chain E0 U0 E U) (hu : u < E.length) (hl : l < E.length) (hul : u ≠ l) (rl : E[l].1 = l) : Chain E0 U0 (uni E u l) (U ++ [(l, leastOf E u)])
theorem Chain.len {E0 E : List El} {U0 U : List (Nat × Nat)} (h : Chain E0 U0 E U) : U0.length ≤ U.length := by
  induction h with
  | here => exact Nat.le_refl _
  | link h hu hl hul rl ih => rw [List.length_append]; omega
theorem Chain.back {E0 E : List El} {U0 U : List (Nat × Nat)} (h : Chain E0 U0 E U) (V : List (Nat × Nat)) (l x : Nat) (e : U = V ++ [(l, x)]) (hk : U0.length ≤ V.length) : Chain E0 U0 (undo1 E l x) V := by
  cases h with
  | here =>
    have := congrArg List.length e
    simp at this
    omega
  | @link E' U' u' l' h hu hl hul rl =>
    have e' := List.append_inj' e rfl
    obtain ⟨rfl, e2⟩ := e'
    simp at e2
    obtain ⟨rfl, rfl⟩ := e2
    rw [undo1_uni hu hl hul rl]
    exact h
theorem Chain.same {E0 E : List El} {U0 U : List (Nat × Nat)} (h : Chain E0 U0 E U) (hl : U.length = U0.length) : E = E0 ∧ U = U0 := by
  cases h with
  | here => exact ⟨rfl, rfl⟩
  | link h hu hl' hul rl =>
    have := h.len
    rw [List.length_append] at hl
    simp at hl
    omega
end Go.Proofs.Ytdffgkhlkbaecaa.Tok
