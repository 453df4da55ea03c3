/- Plain facts on scanning: what the program's loop keeps, and where a text is wrong. -/
import Derived.Test.YtjdomdeejibnmaaTokMath
namespace Go.Proofs.Ytjdomdeejibnmaa.Tok
open Go.RowKit

theorem sp_not_pr {b : UInt8} (h : spB b = true) : prB b = false := by
  unfold spB at h
  unfold prB
  rw [decide_eq_true_iff] at h
  rw [decide_eq_false_iff_not]
  omega
theorem pr_not_sp {b : UInt8} (h : prB b = true) : spB b = false := by
  cases hs : spB b
  · rfl
  · rw [sp_not_pr hs] at h; cases h

theorem endOf_eq {L : List UInt8} : ∀ (d i e : Nat), e = i + d → (∀ j b, i ≤ j → j < e → L[j]? = some b → prB b = true) → e ≤ L.length → (∀ b, L[e]? = some b → prB b = false) → endOf L i = e
  | 0, i, e, he, _, _, hs => by
    obtain rfl : e = i := by omega
    exact endOf_stop hs
  | d + 1, i, e, he, hp, hl, hs => by
    have hi : i < L.length := by omega
    have hb := hp i L[i] (Nat.le_refl _) (by omega) (List.getElem?_eq_getElem hi)
    rw [endOf_step (List.getElem?_eq_getElem hi) hb]
    exact endOf_eq d (i + 1) e (by omega) (fun j b h1 h2 h3 => hp j b (by omega) h2 h3) hl hs

def Inv (L : List UInt8) (C : List (Nat × Nat)) (bg k : Nat) : Prop :=
  (C ++ toks L bg = toks L 0 ∧ bg ≤ k ∧ (∀ j b, bg ≤ j → j < k → L[j]? = some b → prB b = true) ∧ (bg < k → ∃ b, L[k]? = some b ∧ spB b = false)) ∨
  (C ++ toks L k = toks L 0 ∧ bg ≤ k ∧ (∀ b, L[k]? = some b → spB b = true))

theorem inv_start (L : List UInt8) : Inv L [] 0 0 := .inl ⟨rfl, Nat.le_refl _, fun _ _ _ h => absurd h (by omega), fun h => absurd h (by omega)⟩
theorem inv_le {L : List UInt8} {C : List (Nat × Nat)} {bg k : Nat} (h : Inv L C bg k) : bg ≤ k := by
  rcases h with h | h
  · exact h.2.1
  · exact h.2.1
theorem inv_space {L : List UInt8} {C : List (Nat × Nat)} {bg k : Nat} {b : UInt8} (hk : L[k]? = some b) (hs : spB b = true) (h : Inv L C bg k) : Inv L C (k + 1) (k + 1) := by
  have e : C ++ toks L k = toks L 0 := by
    rcases h with ⟨h1, h2, _, h4⟩ | ⟨h1, _, _⟩
    · rcases Nat.lt_or_ge bg k with hlt | hge
      · obtain ⟨b', hb', hn⟩ := h4 hlt
        rw [hk] at hb'
        injection hb' with hb'
        subst hb'
        rw [hs] at hn
        cases hn
      · obtain rfl : bg = k := by omega
        exact h1
    · exact h1
  rw [toks_gap hk (sp_not_pr hs)] at e
  exact .inl ⟨e, Nat.le_refl _, fun j _ h1 h2 => absurd h2 (by omega), fun h => absurd h (by omega)⟩
theorem inv_word {L : List UInt8} {C : List (Nat × Nat)} {bg k : Nat} {b : UInt8} (hk : L[k]? = some b) (hp : prB b = true) (h : Inv L C bg k) :
    C ++ toks L bg = toks L 0 ∧ bg ≤ k ∧ (∀ j b, bg ≤ j → j < k + 1 → L[j]? = some b → prB b = true) := by
  rcases h with ⟨h1, h2, h3, _⟩ | ⟨_, _, h3⟩
  · refine ⟨h1, h2, fun j b' ha hb hc => ?_⟩
    rcases Nat.lt_or_ge j k with hlt | hge
    · exact h3 j b' ha hlt hc
    · obtain rfl : j = k := by omega
      rw [hk] at hc
      injection hc with hc
      subst hc
      exact hp
  · have := h3 b hk
    rw [pr_not_sp hp] at this
    cases this
theorem inv_more {L : List UInt8} {C : List (Nat × Nat)} {bg k : Nat} {b b' : UInt8} (hk : L[k]? = some b) (hp : prB b = true) (hk' : L[k + 1]? = some b') (hs : spB b' = false) (h : Inv L C bg k) : Inv L C bg (k + 1) := by
  obtain ⟨h1, h2, h3⟩ := inv_word hk hp h
  exact .inl ⟨h1, by omega, h3, fun _ => ⟨b', hk', hs⟩⟩
theorem inv_close {L : List UInt8} {C : List (Nat × Nat)} {bg k : Nat} {b : UInt8} (hk : L[k]? = some b) (hp : prB b = true) (hs : ∀ b', L[k + 1]? = some b' → spB b' = true) (h : Inv L C bg k) : Inv L (C ++ [(bg, k + 1)]) bg (k + 1) := by
  obtain ⟨h1, h2, h3⟩ := inv_word hk hp h
  have hkl : k < L.length := (List.getElem?_eq_some_iff.1 hk).1
  have he : endOf L bg = k + 1 := endOf_eq (k + 1 - bg) bg (k + 1) (by omega) h3 (by omega) (fun b' hb' => sp_not_pr (hs b' hb'))
  have hb0 : L[bg]? = some (L[bg]'(by omega)) := List.getElem?_eq_getElem (by omega)
  have hw := toks_word hb0 (h3 bg _ (Nat.le_refl _) (by omega) hb0)
  rw [he] at hw
  refine .inr ⟨?_, by omega, hs⟩
  rw [← h1, hw, List.append_assoc]
  rfl
theorem inv_end {L : List UInt8} {C : List (Nat × Nat)} {bg k : Nat} (hk : L.length = k) (h : Inv L C bg k) : C = toks L 0 := by
  rcases h with ⟨h1, h2, _, h4⟩ | ⟨h1, _, _⟩
  · rcases Nat.lt_or_ge bg k with hlt | hge
    · obtain ⟨b', hb', _⟩ := h4 hlt
      rw [List.getElem?_eq_none (by omega)] at hb'
      cases hb'
    · rw [toks_end (by omega), List.append_nil] at h1
      exact h1
  · rw [toks_end (by omega), List.append_nil] at h1
    exact h1

/-- The bytes ahead of k are white space or printable. -/
def fine (s : ByteArray) (k : Nat) : Prop := ∀ j (h : j < s.size), j < k → cls s[j].toNat ≠ 0
/-- Byte i is the first wrong one. -/
def badAt (s : ByteArray) (i : Nat) : Prop := ∃ h : i < s.size, cls s[i].toNat = 0 ∧ fine s i
theorem fine_zero (s : ByteArray) : fine s 0 := fun _ _ h => absurd h (by omega)
theorem fine_succ {s : ByteArray} {k : Nat} (h : fine s k) (hk : k < s.size) (hc : cls s[k].toNat ≠ 0) : fine s (k + 1) := fun j hj hlt => by
  rcases Nat.lt_or_ge j k with h1 | h1
  · exact h j hj h1
  · obtain rfl : j = k := by omega
    exact hc
theorem bad_or_fine (s : ByteArray) : (∃ i, badAt s i) ∨ fine s s.size := by
  have : ∀ k, k ≤ s.size → (∃ i, badAt s i) ∨ fine s k := by
    intro k
    induction k with
    | zero => exact fun _ => .inr (fine_zero s)
    | succ k ih =>
      intro hk
      rcases ih (by omega) with h | h
      · exact .inl h
      · by_cases hc : cls s[k].toNat = 0
        · exact .inl ⟨k, by omega, hc, h⟩
        · exact .inr (fine_succ h (by omega) hc)
  exact this _ (Nat.le_refl _)
theorem bad_unique {s : ByteArray} {i j : Nat} (hi : badAt s i) (hj : badAt s j) : i = j := by
  obtain ⟨h1, h2, h3⟩ := hi
  obtain ⟨g1, g2, g3⟩ := hj
  rcases Nat.lt_trichotomy i j with h | h | h
  · exact absurd h2 (g3 i h1 h)
  · exact h
  · exact absurd g2 (h3 j g1 h)
theorem bad_not_fine {s : ByteArray} {i : Nat} (hi : badAt s i) (h : fine s s.size) : False := by
  obtain ⟨h1, h2, _⟩ := hi
  exact h i h1 h1 h2

theorem byteAt (s : ByteArray) (k : Nat) (h : k < s.size) : s.data.toList[k]? = some s[k] := by
  rw [List.getElem?_eq_getElem (by simpa using h)]; rfl
theorem cls_pr {b : UInt8} (h0 : cls b.toNat ≠ 0) (h1 : cls b.toNat ≠ 1) : prB b = true := by
  have a := cls_one b.toNat
  have c := cls_zero b.toNat
  unfold prB
  rw [decide_eq_true_iff]
  omega
theorem cls_sp {b : UInt8} (h1 : cls b.toNat = 1) : spB b = true := by
  have a := cls_one b.toNat
  unfold spB
  rw [decide_eq_true_iff]
  omega
theorem cls_nsp {b : UInt8} (h1 : cls b.toNat ≠ 1) : spB b = false := by
  have a := cls_one b.toNat
  unfold spB
  rw [decide_eq_false_iff_not]
  omega

/-- The tokens of a text, each with its offset. -/
def tk (s : ByteArray) (p : Nat × Nat) : ByteArray × Nat := (s.extract p.1 p.2, p.1)
def tokens (s : ByteArray) : List (ByteArray × Nat) := (toks s.data.toList 0).map (tk s)

/-- The places of tokens lie within the text, one behind the other. -/
theorem toksF_in (L : List UInt8) : ∀ (f i : Nat) (p : Nat × Nat), p ∈ toksF L f i → i ≤ p.1 ∧ p.1 < p.2 ∧ p.2 ≤ L.length := by
  intro f
  induction f with
  | zero => intro i p hp; simp [toksF] at hp
  | succ f ih =>
    intro i p hp
    unfold toksF at hp
    cases hL : L[i]? with
    | none => simp [hL] at hp
    | some b =>
      have hi : i < L.length := (List.getElem?_eq_some_iff.1 hL).1
      simp only [hL] at hp
      by_cases hb : prB b = true
      · rw [if_pos hb] at hp
        have h1 := endOf_gt hL hb
        have h2 := endOf_le (L := L) (i := i) (by omega)
        rcases List.mem_cons.1 hp with rfl | hp
        · exact ⟨Nat.le_refl _, h1, h2⟩
        · have := ih _ _ hp; omega
      · rw [if_neg hb] at hp
        have := ih _ _ hp
        omega
theorem toks_in {L : List UInt8} {i : Nat} {p : Nat × Nat} (hp : p ∈ toks L i) : i ≤ p.1 ∧ p.1 < p.2 ∧ p.2 ≤ L.length := toksF_in L _ i p hp
end Go.Proofs.Ytjdomdeejibnmaa.Tok
