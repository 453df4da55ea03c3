/- Plain facts on bytes and tokens: no program, no world. -/
import Derived.Below
namespace Go.Proofs.Ytjdomdeejibnmaa.Tok
open Go.RowKit

/-- The class of a byte: 0 bad, 1 space, 2 letter, 3 sign, 4 dollar. -/
def cls (b : Nat) : Nat :=
  if b = 32 ∨ b = 9 ∨ b = 13 ∨ b = 10 ∨ b = 12 then 1
  else if b = 36 then 4
  else if b = 45 ∨ b = 95 ∨ b = 46 then 2
  else if (48 ≤ b ∧ b ≤ 57) ∨ (65 ≤ b ∧ b ≤ 90) ∨ (97 ≤ b ∧ b ≤ 122) then 2
  else if 32 < b ∧ b ≤ 126 then 3
  else 0

def spB (b : UInt8) : Bool := decide (b.toNat = 32 ∨ b.toNat = 9 ∨ b.toNat = 13 ∨ b.toNat = 10 ∨ b.toNat = 12)
def prB (b : UInt8) : Bool := decide (33 ≤ b.toNat ∧ b.toNat ≤ 126)

/-- The end of the token that begins at i: the first place from i on that is no printable byte. -/
def endOf (L : List UInt8) (i : Nat) : Nat := i + ((L.drop i).takeWhile prB).length

/-- Tokens as pairs (begin, end), from place i on, with fuel. -/
def toksF (L : List UInt8) : Nat → Nat → List (Nat × Nat)
  | 0, _ => []
  | f + 1, i => match L[i]? with
    | none => []
    | some b => if prB b then (i, endOf L i) :: toksF L f (endOf L i) else toksF L f (i + 1)

def toks (L : List UInt8) (i : Nat) : List (Nat × Nat) := toksF L (L.length + 1 - i) i

theorem endOf_gt {L : List UInt8} {i : Nat} {b : UInt8} (h : L[i]? = some b) (hb : prB b = true) : i < endOf L i := by
  unfold endOf
  obtain ⟨hi, rfl⟩ := List.getElem?_eq_some_iff.1 h
  rw [List.drop_eq_getElem_cons hi, List.takeWhile_cons, if_pos hb]
  simp

theorem endOf_le {L : List UInt8} {i : Nat} (h : i ≤ L.length) : endOf L i ≤ L.length := by
  unfold endOf
  have := (List.takeWhile_sublist (p := prB) (l := L.drop i)).length_le
  rw [List.length_drop] at this
  omega

theorem endOf_step {L : List UInt8} {i : Nat} {b : UInt8} (h : L[i]? = some b) (hb : prB b = true) : endOf L i = endOf L (i + 1) := by
  unfold endOf
  obtain ⟨hi, rfl⟩ := List.getElem?_eq_some_iff.1 h
  rw [List.drop_eq_getElem_cons hi, List.takeWhile_cons, if_pos hb]
  simp only [List.length_cons]
  omega

theorem endOf_stop {L : List UInt8} {i : Nat} (h : ∀ b, L[i]? = some b → prB b = false) : endOf L i = i := by
  unfold endOf
  by_cases hi : i < L.length
  · rw [List.drop_eq_getElem_cons hi, List.takeWhile_cons, if_neg (by simp [h _ (List.getElem?_eq_getElem hi)])]
    simp
  · rw [List.drop_eq_nil_of_le (by omega)]
    simp

/-- More fuel than wanted changes nothing. -/
theorem toksF_more (L : List UInt8) : ∀ (f g i : Nat), L.length + 1 - i ≤ f → L.length + 1 - i ≤ g → toksF L f i = toksF L g i := by
  intro f
  induction f with
  | zero =>
    intro g i hf hg
    cases g with
    | zero => rfl
    | succ g =>
      have hn : L[i]? = none := List.getElem?_eq_none (by omega)
      simp [toksF, hn]
  | succ f ih =>
    intro g i hf hg
    cases g with
    | zero =>
      have hn : L[i]? = none := List.getElem?_eq_none (by omega)
      simp [toksF, hn]
    | succ g =>
      unfold toksF
      cases hL : L[i]? with
      | none => rfl
      | some b =>
        have hi : i < L.length := (List.getElem?_eq_some_iff.1 hL).1
        simp only
        by_cases hb : prB b = true
        · have := endOf_gt hL hb
          rw [if_pos hb, if_pos hb, ih g (endOf L i) (by omega) (by omega)]
        · rw [if_neg hb, if_neg hb, ih g (i + 1) (by omega) (by omega)]

theorem toks_end {L : List UInt8} {i : Nat} (h : L.length ≤ i) : toks L i = [] := by
  unfold toks
  have hn : L[i]? = none := List.getElem?_eq_none h
  cases L.length + 1 - i <;> simp [toksF, hn]

theorem toks_word {L : List UInt8} {i : Nat} {b : UInt8} (h : L[i]? = some b) (hb : prB b = true) : toks L i = (i, endOf L i) :: toks L (endOf L i) := by
  have hi : i < L.length := (List.getElem?_eq_some_iff.1 h).1
  have hg := endOf_gt h hb
  unfold toks
  rw [show L.length + 1 - i = (L.length - i) + 1 from by omega]
  rw [toksF, h]
  simp only
  rw [if_pos hb, toksF_more L (L.length - i) (L.length + 1 - endOf L i) (endOf L i) (by omega) (by omega)]

theorem toks_gap {L : List UInt8} {i : Nat} {b : UInt8} (h : L[i]? = some b) (hb : prB b = false) : toks L i = toks L (i + 1) := by
  have hi : i < L.length := (List.getElem?_eq_some_iff.1 h).1
  unfold toks
  rw [show L.length + 1 - i = (L.length - i) + 1 from by omega]
  rw [toksF, h]
  simp only
  rw [if_neg (by simp [hb]), toksF_more L (L.length - i) (L.length + 1 - (i + 1)) (i + 1) (by omega) (by omega)]


/-- All bytes have p. -/
def allB (p : UInt8 → Bool) (s : ByteArray) : Bool := s.data.toList.all p
def allK (p : UInt8 → Bool) (s : ByteArray) (k : Nat) : Bool := (s.data.toList.take k).all p
theorem allK_zero (p : UInt8 → Bool) (s : ByteArray) : allK p s 0 = true := by simp [allK]
theorem allK_succ (p : UInt8 → Bool) (s : ByteArray) (k : Nat) (h : k < s.size) : allK p s (k + 1) = (allK p s k && p s[k]) := by
  unfold allK
  have e : s.data.toList.take (k + 1) = s.data.toList.take k ++ [s[k]] := by
    rw [List.take_succ_eq_append_getElem (by simpa using h)]; rfl
  rw [e, List.all_append]
  simp
theorem allK_all (p : UInt8 → Bool) (s : ByteArray) (k : Nat) (h : s.size ≤ k) : allK p s k = allB p s := by
  unfold allK allB
  rw [List.take_of_length_le (by simpa using h)]
theorem allB_no (p : UInt8 → Bool) (s : ByteArray) (k : Nat) (h : k < s.size) (hp : p s[k] = false) : allB p s = false := by
  unfold allB
  rw [List.all_eq_false]
  exact ⟨s[k], by rw [show s[k] = s.data.toList[k]'(by simpa using h) from rfl]; exact List.getElem_mem _, by simp [hp]⟩
theorem allB_congr {p q : UInt8 → Bool} (h : ∀ b, p b = q b) (s : ByteArray) : allB p s = allB q s := by rw [show p = q from funext h]
theorem allB_and (p q : UInt8 → Bool) (s : ByteArray) : (allB p s && allB q s) = allB (fun b => p b && q b) s := by
  unfold allB
  generalize s.data.toList = l
  induction l with
  | nil => rfl
  | cons a t ih =>
    simp only [List.all_cons]
    rw [← ih]
    cases p a <;> cases q a <;> simp

def neB (s : ByteArray) : Bool := !s.toList.isEmpty

/-- The four predicates of the program on classes. -/
def qL (c : Nat) : Bool := (c : Int) == 2
def qS (c : Nat) : Bool := ((c : Int) == 2) || ((c : Int) == 3)
def qG (c : Nat) : Bool := (c : Int) == 1
def qW (c : Nat) : Bool := ((c : Int) != 1) && ((c : Int) != 0)
def onCls (q : Nat → Bool) (b : UInt8) : Bool := q (cls b.toNat)

def letB (b : UInt8) : Bool := decide ((97 ≤ b.toNat ∧ b.toNat ≤ 122) ∨ (65 ≤ b.toNat ∧ b.toNat ≤ 90) ∨ (48 ≤ b.toNat ∧ b.toNat ≤ 57) ∨ b.toNat = 45 ∨ b.toNat = 95 ∨ b.toNat = 46)
def ndB (b : UInt8) : Bool := decide (b.toNat ≠ 36)

theorem cls_le (b : Nat) : cls b ≤ 4 := by unfold cls; (repeat' split) <;> omega
theorem cls_one (b : Nat) : cls b = 1 ↔ (b = 32 ∨ b = 9 ∨ b = 13 ∨ b = 10 ∨ b = 12) := by unfold cls; (repeat' split) <;> omega
theorem cls_two (b : Nat) : cls b = 2 ↔ ((97 ≤ b ∧ b ≤ 122) ∨ (65 ≤ b ∧ b ≤ 90) ∨ (48 ≤ b ∧ b ≤ 57) ∨ b = 45 ∨ b = 95 ∨ b = 46) := by unfold cls; (repeat' split) <;> omega
theorem cls_zero (b : Nat) : cls b = 0 ↔ ¬ (33 ≤ b ∧ b ≤ 126) ∧ ¬ (b = 32 ∨ b = 9 ∨ b = 13 ∨ b = 10 ∨ b = 12) := by unfold cls; (repeat' split) <;> omega
theorem cls_four (b : Nat) : cls b = 4 ↔ b = 36 := by unfold cls; (repeat' split) <;> omega

theorem onG (b : UInt8) : onCls qG b = spB b := by
  have := cls_one b.toNat
  unfold onCls qG spB
  rw [Bool.eq_iff_iff, decide_eq_true_iff, beq_iff_eq]
  omega
theorem onL (b : UInt8) : onCls qL b = letB b := by
  have := cls_two b.toNat
  unfold onCls qL letB
  rw [Bool.eq_iff_iff, decide_eq_true_iff, beq_iff_eq]
  omega
theorem onW (b : UInt8) : onCls qW b = prB b := by
  have h1 := cls_one b.toNat
  have h0 := cls_zero b.toNat
  unfold onCls qW prB
  rw [Bool.eq_iff_iff, decide_eq_true_iff, Bool.and_eq_true, bne_iff_ne, bne_iff_ne]
  omega
theorem onS (b : UInt8) : onCls qS b = (prB b && ndB b) := by
  have h1 := cls_one b.toNat
  have h0 := cls_zero b.toNat
  have h4 := cls_four b.toNat
  have hl := cls_le b.toNat
  unfold onCls qS prB ndB
  rw [Bool.eq_iff_iff, Bool.or_eq_true, beq_iff_eq, beq_iff_eq, Bool.and_eq_true, decide_eq_true_iff, decide_eq_true_iff]
  omega

end Go.Proofs.Ytjdomdeejibnmaa.Tok
