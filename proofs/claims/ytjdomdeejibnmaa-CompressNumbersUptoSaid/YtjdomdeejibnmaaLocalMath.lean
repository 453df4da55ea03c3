/- Plain facts: the tokens of two texts with a white space between them. -/
import Derived.Test.YtjdomdeejibnmaaScanIs
namespace Go.Proofs.Ytjdomdeejibnmaa.Tok
open Go.RowKit Go.Proofs.Ytjdomdeejibnmaa

def shift (m : Nat) (p : Nat × Nat) : Nat × Nat := (p.1 + m, p.2 + m)

theorem toksF_len (L : List UInt8) : ∀ (f i : Nat), (toksF L f i).length ≤ L.length - i := by
  intro f
  induction f with
  | zero => intro i; simp [toksF]
  | succ f ih =>
    intro i
    unfold toksF
    cases hL : L[i]? with
    | none => simp
    | some b =>
      have hi : i < L.length := (List.getElem?_eq_some_iff.1 hL).1
      simp only
      by_cases hb : prB b = true
      · rw [if_pos hb, List.length_cons]
        have h1 := endOf_gt hL hb
        have h2 := endOf_le (L := L) (i := i) (by omega)
        have := ih (endOf L i)
        omega
      · rw [if_neg hb]
        have := ih (i + 1)
        omega
theorem toks_len (L : List UInt8) (i : Nat) : (toks L i).length ≤ L.length - i := toksF_len L _ i

theorem endOf_right (P R : List UInt8) (i : Nat) : endOf (P ++ R) (P.length + i) = P.length + endOf R i := by
  unfold endOf
  rw [show (P ++ R).drop (P.length + i) = R.drop i by rw [List.drop_append, List.drop_eq_nil_of_le (by omega), List.nil_append, show P.length + i - P.length = i from by omega]]
  omega

theorem flatMap_congr' {α β : Type} {f g : α → List β} : ∀ {l : List α}, (∀ x ∈ l, f x = g x) → l.flatMap f = l.flatMap g
  | [], _ => rfl
  | x :: l, h => by
    rw [List.flatMap_cons, List.flatMap_cons, h x (by simp), flatMap_congr' (fun y hy => h y (by simp [hy]))]

theorem toksF_right (P R : List UInt8) : ∀ (f i : Nat), toksF (P ++ R) f (P.length + i) = (toksF R f i).map (shift P.length) := by
  intro f
  induction f with
  | zero => intro i; rfl
  | succ f ih =>
    intro i
    unfold toksF
    rw [List.getElem?_append_right (by omega), show P.length + i - P.length = i from by omega]
    cases hL : R[i]? with
    | none => rfl
    | some b =>
      simp only
      by_cases hb : prB b = true
      · rw [if_pos hb, if_pos hb, endOf_right, ih, List.map_cons]
        congr 1
        unfold shift
        rw [Nat.add_comm P.length i, Nat.add_comm P.length (endOf R i)]
      · rw [if_neg hb, if_neg hb, show P.length + i + 1 = P.length + (i + 1) from by omega, ih]

theorem toks_right (P R : List UInt8) (i : Nat) : toks (P ++ R) (P.length + i) = (toks R i).map (shift P.length) := by
  unfold toks
  rw [toksF_more (P ++ R) ((P ++ R).length + 1 - (P.length + i)) (R.length + 1 - i) (P.length + i) (Nat.le_refl _) (by rw [List.length_append]; omega)]
  exact toksF_right P R _ i

theorem takeWhile_stop (l r : List UInt8) (x : UInt8) (hx : prB x = false) : (l ++ x :: r).takeWhile prB = l.takeWhile prB := by
  induction l with
  | nil => simp [hx]
  | cons a l ih =>
    rw [List.cons_append, List.takeWhile_cons, List.takeWhile_cons, ih]

theorem endOf_left (A R : List UInt8) (x : UInt8) (hx : prB x = false) (i : Nat) (hi : i ≤ A.length) : endOf (A ++ x :: R) i = endOf A i := by
  unfold endOf
  rw [List.drop_append_of_le_length hi, takeWhile_stop _ _ _ hx]

theorem toks_left (A R : List UInt8) (x : UInt8) (hx : prB x = false) : ∀ (d i : Nat), A.length - i = d → i ≤ A.length → toks (A ++ x :: R) i = toks A i ++ toks (A ++ x :: R) A.length := by
  intro d
  induction d using Nat.strongRecOn with
  | ind d ih =>
    intro i hd hi
    rcases Nat.lt_or_ge i A.length with hlt | hge
    · have h1 : A[i]? = some A[i] := List.getElem?_eq_getElem hlt
      have h2 : (A ++ x :: R)[i]? = some A[i] := by rw [List.getElem?_append_left hlt]; exact h1
      by_cases hb : prB A[i] = true
      · have g1 := endOf_gt h1 hb
        have g2 := endOf_le (L := A) (i := i) (by omega)
        rw [toks_word h2 hb, toks_word h1 hb, endOf_left A R x hx i hi, ih (A.length - endOf A i) (by omega) (endOf A i) rfl g2]
        rfl
      · have hb' : prB A[i] = false := by simpa using hb
        rw [toks_gap h2 hb', toks_gap h1 hb', ih (A.length - (i + 1)) (by omega) (i + 1) rfl (by omega)]
    · obtain rfl : i = A.length := by omega
      rw [toks_end (Nat.le_refl _)]
      rfl

theorem toks_two (A R : List UInt8) (x : UInt8) (hx : prB x = false) : toks (A ++ x :: R) 0 = toks A 0 ++ (toks R 0).map (shift (A.length + 1)) := by
  rw [toks_left A R x hx A.length 0 (by omega) (by omega)]
  congr 1
  rw [toks_gap (b := x) (by simp) hx]
  have := toks_right (A ++ [x]) R 0
  simpa using this

theorem extract_list (s : ByteArray) (i j : Nat) : (s.extract i j).data.toList = (s.data.toList.drop i).take (j - i) := by
  rw [ByteArray.data_extract, Array.toList_extract]
theorem bytes_ext {a b : ByteArray} (h : a.data.toList = b.data.toList) : a = b := by
  apply ByteArray.ext
  exact Array.toList_inj.1 h

/-- The text of two texts with a byte between. -/
structure Two (a b c : ByteArray) (x : UInt8) : Prop where
  list : c.data.toList = a.data.toList ++ x :: b.data.toList
  size : c.size = a.size + 1 + b.size
  sp : spB x = true

section
variable {a b c : ByteArray} {x : UInt8}
theorem Two.of (h : c = a ++ ⟨#[x]⟩ ++ b) (hx : spB x = true) : Two a b c x := by
  subst h
  refine ⟨?_, ?_, hx⟩
  · simp
  · simp [ByteArray.size_append]
    rfl
theorem Two.toks (h : Two a b c x) : Tok.toks c.data.toList 0 = Tok.toks a.data.toList 0 ++ (Tok.toks b.data.toList 0).map (shift (a.size + 1)) := by
  rw [h.list, toks_two _ _ _ (sp_not_pr h.sp)]
  simp
theorem Two.left (h : Two a b c x) {i j : Nat} (hj : j ≤ a.size) : c.extract i j = a.extract i j := by
  apply bytes_ext
  rw [extract_list, extract_list, h.list, List.drop_append, List.take_append]
  have hl : a.data.toList.length = a.size := by simp
  rw [show j - i - (List.drop i a.data.toList).length = 0 from by rw [List.length_drop, hl]; omega]
  simp
theorem Two.right (h : Two a b c x) (i j : Nat) : c.extract (i + (a.size + 1)) (j + (a.size + 1)) = b.extract i j := by
  apply bytes_ext
  have hl : a.data.toList.length = a.size := by simp
  rw [extract_list, extract_list, h.list, List.drop_append, List.drop_eq_nil_of_le (by rw [hl]; omega), List.nil_append, hl,
    show i + (a.size + 1) - a.size = i + 1 from by omega, List.drop_succ_cons, show j + (a.size + 1) - (i + (a.size + 1)) = j - i from by omega]
theorem Two.byteL (h : Two a b c x) {k : Nat} (hk : k < a.size) (hc : k < c.size) : c[k] = a[k] := by
  have h1 := byteAt c k hc
  rw [h.list, List.getElem?_append_left (by simpa using hk), byteAt a k hk] at h1
  injection h1 with h1
  exact h1.symm
theorem Two.byteX (h : Two a b c x) (hc : a.size < c.size) : c[a.size] = x := by
  have h1 := byteAt c a.size hc
  rw [h.list, List.getElem?_append_right (by simp)] at h1
  simp at h1
  exact h1.symm
theorem Two.byteR (h : Two a b c x) {k : Nat} (hk : k < b.size) (hc : k + (a.size + 1) < c.size) : c[k + (a.size + 1)] = b[k] := by
  have hl : a.data.toList.length = a.size := by simp
  have h1 := byteAt c _ hc
  rw [h.list, List.getElem?_append_right (by rw [hl]; omega), hl, show k + (a.size + 1) - a.size = k + 1 from by omega, List.getElem?_cons_succ, byteAt b k hk] at h1
  injection h1 with h1
  exact h1.symm
theorem Two.fineTo (h : Two a b c x) (hf : fine a a.size) : ∀ k, k ≤ b.size → fine b k → fine c (k + (a.size + 1)) := by
  intro k hk hb j hj hlt
  have hsz := h.size
  rcases Nat.lt_trichotomy j a.size with h1 | h1 | h1
  · rw [h.byteL h1 hj]; exact hf j h1 h1
  · subst h1
    rw [h.byteX hj, (space_of.1 h.sp)]
    omega
  · obtain ⟨d, rfl⟩ : ∃ d, j = d + (a.size + 1) := ⟨j - (a.size + 1), by omega⟩
    rw [h.byteR (by omega) hj]
    exact hb d (by omega) (by omega)
theorem Two.badL (h : Two a b c x) {i : Nat} (hb : badAt a i) : badAt c i := by
  obtain ⟨h1, h2, h3⟩ := hb
  have hsz := h.size
  refine ⟨by omega, by rw [h.byteL h1]; exact h2, fun j hj hlt => ?_⟩
  rw [h.byteL (by omega) hj]
  exact h3 j (by omega) hlt
theorem Two.badR (h : Two a b c x) (hf : fine a a.size) {i : Nat} (hb : badAt b i) : badAt c (i + (a.size + 1)) := by
  obtain ⟨h1, h2, h3⟩ := hb
  have hsz := h.size
  exact ⟨by omega, by rw [h.byteR h1]; exact h2, h.fineTo hf i (by omega) h3⟩
theorem Two.fine (h : Two a b c x) (hf : Tok.fine a a.size) (hb : Tok.fine b b.size) : Tok.fine c c.size := by
  rw [h.size, show a.size + 1 + b.size = b.size + (a.size + 1) from by omega]
  exact h.fineTo hf b.size (Nat.le_refl _) hb
end

/-- The cells of tokens, each offset raised by m. -/
def cellsUp (s : ByteArray) (m : Nat) (ts : List (Nat × Nat)) : List Value := ts.flatMap fun p => [Value.string (s.extract p.1 p.2), Value.int .i64 ((p.1 + m : Nat) : Int)]
theorem cells_two {a b c : ByteArray} {x : UInt8} (h : Two a b c x) : cellsOf c (toks c.data.toList 0) = cellsOf a (toks a.data.toList 0) ++ cellsUp b (a.size + 1) (toks b.data.toList 0) := by
  unfold cellsOf cellsUp
  rw [h.toks, List.flatMap_append]
  congr 1
  · apply flatMap_congr'
    intro p hp
    have := toks_in hp
    simp only [tokV, tk]
    rw [h.left (by simpa using this.2.2)]
  · rw [List.flatMap_map]
    apply flatMap_congr'
    intro p _
    simp only [tokV, tk, shift]
    rw [h.right]

/-- What Scan says of the whole, where both parts are short. -/
theorem scan_two {a b c : ByteArray} {x : UInt8} (h : Two a b c x) (ha : a.size ≤ 1500) (hb : b.size ≤ 1500) {ta tb : List (Nat × Nat)} {ia ib ea eb : Nat} (sa : ScanIs a ta ia ea) (sb : ScanIs b tb ib eb) :
    (ea = 30 ∧ ScanIs c [] ia 30) ∨ (ea = 0 ∧ eb = 30 ∧ ib ≤ 1500 ∧ ScanIs c [] (ib + (a.size + 1)) 30) ∨
    (ea = 0 ∧ eb = 0 ∧ ta = toks a.data.toList 0 ∧ tb = toks b.data.toList 0 ∧ ScanIs c (toks c.data.toList 0) 0 0) := by
  have hsz := h.size
  have la := toks_len a.data.toList 0
  have lb := toks_len b.data.toList 0
  have lc := toks_len c.data.toList 0
  have e1 : a.data.toList.length = a.size := by simp
  have e2 : b.data.toList.length = b.size := by simp
  have e3 : c.data.toList.length = c.size := by simp
  rcases sa with ⟨g, _⟩ | ⟨_, hba, _, rfl⟩ | ⟨_, _, g, _⟩ | ⟨_, fa, _, rfl, _, rfl⟩
  · omega
  · exact .inl ⟨rfl, .inr (.inl ⟨by omega, h.badL hba, rfl, rfl⟩)⟩
  · omega
  · rcases sb with ⟨g, _⟩ | ⟨_, hbb, _, rfl⟩ | ⟨_, _, g, _⟩ | ⟨_, fb, _, rfl, _, rfl⟩
    · omega
    · exact .inr (.inl ⟨rfl, rfl, by obtain ⟨g, _⟩ := hbb; omega, .inr (.inl ⟨by omega, h.badR fa hbb, rfl, rfl⟩)⟩)
    · omega
    · exact .inr (.inr ⟨rfl, rfl, rfl, rfl, .inr (.inr (.inr ⟨by omega, h.fine fa fb, by omega, rfl, rfl, rfl⟩))⟩)
end Go.Proofs.Ytjdomdeejibnmaa.Tok
