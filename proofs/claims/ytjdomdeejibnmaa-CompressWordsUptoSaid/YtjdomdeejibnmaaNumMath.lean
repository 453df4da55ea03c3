/- The letters of numbers and the numbers of letters, as plain functions on lists; no program. -/
import Derived.Lib.Hide
namespace Go.Proofs.Ytjdomdeejibnmaa.Tok

def preN (o : List Int) (p : List Int × Option Nat) : List Int × Option Nat := (o ++ p.1, p.2)
theorem preN_nil (p : List Int × Option Nat) : preN [] p = p := rfl
theorem preN_pre (o o' : List Int) (p : List Int × Option Nat) : preN o (preN o' p) = preN (o ++ o') p := by
  unfold preN
  simp

/-- The numbers of letters, and where the first letter stands that is not possible. -/
def numsF : List UInt8 → Nat → Nat → Int → List Int × Option Nat
  | [], i, high, _ => ([], if 0 < high then some i else none)
  | b :: r, i, high, last =>
    if 65 ≤ b.toNat ∧ b.toNat ≤ 84 then
      if 1000000 < high * 20 + (b.toNat - 65) + 1 then ([], some i)
      else preN [((high * 20 + (b.toNat - 65) + 1 : Nat) : Int)] (numsF r (i + 1) 0 ((high * 20 + (b.toNat - 65) + 1 : Nat) : Int))
    else if 85 ≤ b.toNat ∧ b.toNat ≤ 89 then
      if 1000000 < high * 5 + (b.toNat - 85) + 1 then ([], some i) else numsF r (i + 1) (high * 5 + (b.toNat - 85) + 1) last
    else if b.toNat = 90 ∧ high = 0 ∧ 0 < last then preN [0] (numsF r (i + 1) 0 0)
    else if b.toNat = 63 ∧ high = 0 then preN [-1] (numsF r (i + 1) 0 (-1))
    else ([], some i)

def lastOf (o : List Int) : Int := o.getLast?.getD 0
theorem lastOf_snoc (o : List Int) (x : Int) : lastOf (o ++ [x]) = x := by simp [lastOf]
theorem lastOf_nil : lastOf [] = 0 := rfl
theorem lastOf_get (o : List Int) (h : 0 < o.length) : o[o.length - 1]? = some (lastOf o) := by
  unfold lastOf
  rw [List.getLast?_eq_getElem?, List.getElem?_eq_getElem (by omega)]
  rfl

theorem numsF_len : ∀ (l : List UInt8) (i high : Nat) (last : Int), (numsF l i high last).1.length ≤ l.length
  | [], _, _, _ => by simp [numsF]
  | b :: r, i, high, last => by
    unfold numsF
    split
    · split
      · simp
      · have := numsF_len r (i + 1) 0 ((high * 20 + (b.toNat - 65) + 1 : Nat) : Int)
        simp only [preN, List.length_append, List.length_cons, List.length_nil]
        omega
    · split
      · split
        · simp
        · have := numsF_len r (i + 1) (high * 5 + (b.toNat - 85) + 1) last
          simp
          omega
      · split
        · have := numsF_len r (i + 1) 0 0
          simp [preN]
          omega
        · split
          · have := numsF_len r (i + 1) 0 (-1)
            simp [preN]
            omega
          · simp

section
variable {L : List UInt8} {k high : Nat} {o : List Int} {b : UInt8} {n : Nat} {last : Int}

/-- Between two letters: what the whole text's numbers are. -/
def NumAt (L : List UInt8) (k high : Nat) (last : Int) (o : List Int) : Prop := numsF L 0 0 0 = preN o (numsF (L.drop k) k high last)
theorem NumAt.start : NumAt L 0 0 0 [] := rfl
theorem drop_at (h : L[k]? = some b) : L.drop k = b :: L.drop (k + 1) := by
  obtain ⟨hk, hb⟩ := List.getElem?_eq_some_iff.1 h
  rw [List.drop_eq_getElem_cons hk, hb]
theorem NumAt.digit (h : NumAt L k high last o) (hb : L[k]? = some b) (h1 : 65 ≤ b.toNat ∧ b.toNat ≤ 84) (hn : n = high * 20 + (b.toNat - 65) + 1) (hm : n ≤ 1000000) : NumAt L (k + 1) 0 (n : Int) (o ++ [(n : Int)]) := by
  subst hn
  unfold NumAt at h ⊢
  rw [h, drop_at hb, numsF, if_pos h1, if_neg (by omega), preN_pre]
theorem NumAt.digit_big (h : NumAt L k high last o) (hb : L[k]? = some b) (h1 : 65 ≤ b.toNat ∧ b.toNat ≤ 84) (hm : 1000000 < high * 20 + (b.toNat - 65) + 1) : numsF L 0 0 0 = (o, some k) := by
  unfold NumAt at h
  rw [h, drop_at hb, numsF, if_pos h1, if_pos hm]
  simp [preN]
theorem NumAt.up (h : NumAt L k high last o) (hb : L[k]? = some b) (h1 : 85 ≤ b.toNat ∧ b.toNat ≤ 89) (hn : n = high * 5 + (b.toNat - 85) + 1) (hm : n ≤ 1000000) : NumAt L (k + 1) n last o := by
  subst hn
  unfold NumAt at h ⊢
  rw [h, drop_at hb, numsF, if_neg (by omega), if_pos h1, if_neg (by omega)]
theorem NumAt.up_big (h : NumAt L k high last o) (hb : L[k]? = some b) (h1 : 85 ≤ b.toNat ∧ b.toNat ≤ 89) (hm : 1000000 < high * 5 + (b.toNat - 85) + 1) : numsF L 0 0 0 = (o, some k) := by
  unfold NumAt at h
  rw [h, drop_at hb, numsF, if_neg (by omega), if_pos h1, if_pos hm]
  simp [preN]
theorem NumAt.save (h : NumAt L k 0 last o) (hb : L[k]? = some b) (h1 : b.toNat = 90) (hl : 0 < last) : NumAt L (k + 1) 0 0 (o ++ [0]) := by
  unfold NumAt at h ⊢
  rw [h, drop_at hb, numsF, if_neg (by omega), if_neg (by omega), if_pos ⟨h1, rfl, hl⟩, preN_pre]
theorem NumAt.ask (h : NumAt L k 0 last o) (hb : L[k]? = some b) (h1 : b.toNat = 63) : NumAt L (k + 1) 0 (-1) (o ++ [-1]) := by
  unfold NumAt at h ⊢
  rw [h, drop_at hb, numsF, if_neg (by omega), if_neg (by omega), if_neg (by omega), if_pos ⟨h1, rfl⟩, preN_pre]
theorem NumAt.bad (h : NumAt L k high last o) (hb : L[k]? = some b) (h1 : ¬ (65 ≤ b.toNat ∧ b.toNat ≤ 84)) (h2 : ¬ (85 ≤ b.toNat ∧ b.toNat ≤ 89)) (h3 : ¬ (b.toNat = 90 ∧ high = 0 ∧ 0 < last)) (h4 : ¬ (b.toNat = 63 ∧ high = 0)) : numsF L 0 0 0 = (o, some k) := by
  unfold NumAt at h
  rw [h, drop_at hb, numsF, if_neg h1, if_neg h2, if_neg h3, if_neg h4]
  simp [preN]
theorem NumAt.end_ (h : NumAt L k high last o) (hk : L.length ≤ k) : numsF L 0 0 0 = (o, if 0 < high then some k else none) := by
  unfold NumAt at h
  rw [h, List.drop_eq_nil_of_le hk, numsF]
  simp [preN]
end

/-- The letters of a number ahead of a tail. -/
def highs : Nat → List UInt8 → List UInt8
  | 0, t => t
  | r + 1, t => highs (r / 5) (UInt8.ofNat (85 + r % 5) :: t)
decreasing_by omega
def lettersF (n : Nat) : List UInt8 := highs ((n - 1) / 20) [UInt8.ofNat (65 + (n - 1) % 20)]
theorem highs_pos {r : Nat} (h : 0 < r) (t : List UInt8) : highs r t = highs ((r - 1) / 5) (UInt8.ofNat (85 + (r - 1) % 5) :: t) := by
  obtain ⟨k, rfl⟩ : ∃ k, r = k + 1 := ⟨r - 1, by omega⟩
  rw [highs]
  rfl
end Go.Proofs.Ytjdomdeejibnmaa.Tok
