/- What Write tells of a code, as plain functions on lists, and that Read tells the code back; no program. -/
import Derived.Test.YtjdomdeejibnmaaReadMath8
import Derived.Test.YtjdomdeejibnmaaNumsOk
import Derived.Test.YtjdomdeejibnmaaLetters
namespace Go.Proofs.Ytjdomdeejibnmaa.Tok
open Go.RowKit Go.Proofs.Ytjdomdeejibnmaa

/-- The letters of a number of a code, and of all of them. -/
def wrF (n : Int) : List UInt8 := if n = 0 then [90] else if n = -1 then [63] else lettersF n.toNat
def codeF (l : List Int) : List UInt8 := (l.map wrF).flatten
theorem code_nil : codeF [] = [] := rfl
theorem code_take {l : List Int} {k : Nat} (h : k < l.length) : codeF (l.take (k + 1)) = codeF (l.take k) ++ wrF l[k] := by
  unfold codeF
  rw [List.take_succ_eq_append_getElem h, List.map_append, List.flatten_append]
  simp
theorem code_drop {l : List Int} {k : Nat} (h : k < l.length) : codeF (l.drop k) = wrF l[k] ++ codeF (l.drop (k + 1)) := by
  unfold codeF
  rw [List.drop_eq_getElem_cons h, List.map_cons, List.flatten_cons]
theorem highs_app (r : Nat) : ∀ t u : List UInt8, highs r t ++ u = highs r (t ++ u) := by
  induction r using Nat.strongRecOn with
  | ind r ih =>
    intro t u
    rcases Nat.eq_zero_or_pos r with rfl | h
    · rw [highs_zero, highs_zero]
    · rw [highs_pos h, highs_pos h, ih _ (by omega)]
      rfl
theorem highs_len (a : Nat) : ∀ (r : Nat) (t : List UInt8), a ≤ 7 → r ≤ bnd a → (highs r t).length ≤ t.length + a := by
  induction a with
  | zero =>
    intro r t _ h
    obtain rfl : r = 0 := by
      have : bnd 0 = 0 := rfl
      omega
    rw [highs_zero]
    omega
  | succ a ih =>
    intro r t ha h
    rcases Nat.eq_zero_or_pos r with rfl | hp
    · rw [highs_zero]
      omega
    · obtain ⟨a', e, h'⟩ := bnd_step ha hp h
      obtain rfl : a = a' := by omega
      rw [highs_pos hp]
      have := ih _ (UInt8.ofNat (85 + (r - 1) % 5) :: t) (by omega) h'
      simp only [List.length_cons] at this
      omega
theorem wr_len {x : Int} (h2 : x ≤ 1000000) : (wrF x).length ≤ 8 := by
  unfold wrF
  split
  · simp
  · split
    · simp
    · unfold lettersF
      have hb : bnd 7 = 49999 := rfl
      have := highs_len 7 ((x.toNat - 1) / 20) [UInt8.ofNat (65 + (x.toNat - 1) % 20)] (Nat.le_refl _) (by omega)
      simpa using this
theorem NumOk.le {l : List Int} (h : NumOk l) {k : Nat} (hk : k < l.length) : -1 ≤ l[k] ∧ l[k] ≤ 1000000 := by
  have := h k hk hk
  unfold numAt at this
  simp only [Bool.and_eq_true, decide_eq_true_eq] at this
  exact this.1
theorem code_len {l : List Int} (h : NumOk l) (k : Nat) : k ≤ l.length → (codeF (l.take k)).length ≤ 8 * k := by
  induction k with
  | zero => intro _; simp [codeF]
  | succ k ih =>
    intro hk
    rw [code_take (by omega), List.length_append]
    have := ih (by omega)
    have := wr_len (h.le (show k < l.length by omega)).2
    omega
theorem nums_highs (r : Nat) : ∀ (t : List UInt8) (i : Nat) (last : Int), r ≤ 1000000 → ∃ j, numsF (highs r t) i 0 last = numsF t j r last := by
  induction r using Nat.strongRecOn with
  | ind r ih =>
    intro t i last hr
    rcases Nat.eq_zero_or_pos r with rfl | h
    · exact ⟨i, by rw [highs_zero]⟩
    · obtain ⟨j, hj⟩ := ih ((r - 1) / 5) (by omega) (UInt8.ofNat (85 + (r - 1) % 5) :: t) i last (by omega)
      have e : (UInt8.ofNat (85 + (r - 1) % 5)).toNat = 85 + (r - 1) % 5 := by simp; omega
      have e2 : (r - 1) / 5 * 5 + (85 + (r - 1) % 5 - 85) + 1 = r := by omega
      refine ⟨j + 1, ?_⟩
      rw [highs_pos h, hj, numsF, e, if_neg (by omega), if_pos (by omega), if_neg (by omega), e2]
theorem nums_letters {n : Nat} (h1 : 1 ≤ n) (h2 : n ≤ 1000000) (t : List UInt8) (i : Nat) (last : Int) : ∃ j, numsF (lettersF n ++ t) i 0 last = preN [(n : Int)] (numsF t j 0 (n : Int)) := by
  obtain ⟨j, hj⟩ := nums_highs ((n - 1) / 20) ([UInt8.ofNat (65 + (n - 1) % 20)] ++ t) i last (by omega)
  have e : (UInt8.ofNat (65 + (n - 1) % 20)).toNat = 65 + (n - 1) % 20 := by simp; omega
  have e2 : (n - 1) / 20 * 20 + (65 + (n - 1) % 20 - 65) + 1 = n := by omega
  refine ⟨j + 1, ?_⟩
  rw [lettersF, highs_app, hj, List.singleton_append, numsF, e, if_pos (by omega), if_neg (by omega), e2]
theorem nums_wr {x last : Int} (h : numAt x last = true) (t : List UInt8) (i : Nat) : ∃ j, numsF (wrF x ++ t) i 0 last = preN [x] (numsF t j 0 x) := by
  unfold numAt at h
  simp only [Bool.and_eq_true, decide_eq_true_eq, Bool.not_eq_true', Bool.and_eq_false_iff, beq_eq_false_iff_ne, decide_eq_false_iff_not] at h
  obtain ⟨⟨h1, h2⟩, h3⟩ := h
  unfold wrF
  by_cases e0 : x = 0
  · subst e0
    have hl : 0 < last := by omega
    refine ⟨i + 1, ?_⟩
    rw [if_pos rfl, List.singleton_append, numsF, show (90 : UInt8).toNat = 90 from rfl, if_neg (by omega), if_neg (by omega), if_pos ⟨rfl, rfl, hl⟩]
  · rw [if_neg e0]
    by_cases e1 : x = -1
    · subst e1
      refine ⟨i + 1, ?_⟩
      rw [if_pos rfl, List.singleton_append, numsF, show (63 : UInt8).toNat = 63 from rfl, if_neg (by omega), if_neg (by omega), if_neg (by omega), if_pos ⟨rfl, rfl⟩]
    · rw [if_neg e1]
      obtain ⟨n, rfl⟩ : ∃ n : Nat, x = (n : Int) := ⟨x.toNat, by omega⟩
      exact nums_letters (by omega) (by omega) t i last
theorem nums_upto {l : List Int} (h : NumOk l) (k : Nat) : k ≤ l.length → ∃ j, numsF (codeF l) 0 0 0 = preN (l.take k) (numsF (codeF (l.drop k)) j 0 (lastOf (l.take k))) := by
  induction k with
  | zero => intro _; exact ⟨0, by simp [preN, lastOf]⟩
  | succ k ih =>
    intro hk
    obtain ⟨j, hj⟩ := ih (by omega)
    obtain ⟨j', hj'⟩ := nums_wr (h k (by omega) (by omega)) (codeF (l.drop (k + 1))) j
    refine ⟨j', ?_⟩
    rw [hj, code_drop (by omega), hj', preN_pre, List.take_succ_eq_append_getElem (by omega), lastOf_snoc]
theorem nums_code {l : List Int} (h : NumOk l) : numsF (codeF l) 0 0 0 = (l, none) := by
  obtain ⟨j, hj⟩ := nums_upto h l.length (Nat.le_refl _)
  rw [hj, List.drop_length, List.take_length, code_nil, numsF]
  simp [preN]

/-- Letters divided into words. -/
def chunksN (w : Nat) : Nat → List UInt8 → List (List UInt8)
  | 0, _ => []
  | f + 1, bs => if bs = [] then [] else bs.take w :: chunksN w f (bs.drop w)
def chunksF (w : Nat) (bs : List UInt8) : List (List UInt8) := chunksN w bs.length bs
theorem chunks_nil (w f : Nat) : chunksN w f [] = [] := by cases f <;> simp [chunksN]
theorem chunks_cons {w f : Nat} {bs : List UInt8} (h : bs ≠ []) : chunksN w (f + 1) bs = bs.take w :: chunksN w f (bs.drop w) := by rw [chunksN, if_neg h]
theorem chunks_len (w f : Nat) : ∀ bs, (chunksN w f bs).length ≤ f := by
  induction f with
  | zero => intro bs; simp [chunksN]
  | succ f ih =>
    intro bs
    unfold chunksN
    split
    · simp
    · have := ih (bs.drop w)
      simp only [List.length_cons]
      omega
theorem chunks_flat {w : Nat} (hw : 1 ≤ w) (f : Nat) : ∀ bs : List UInt8, bs.length ≤ f → (chunksN w f bs).flatten = bs := by
  induction f with
  | zero =>
    intro bs h
    obtain rfl : bs = [] := List.eq_nil_of_length_eq_zero (by omega)
    rfl
  | succ f ih =>
    intro bs h
    by_cases hb : bs = []
    · rw [hb, chunks_nil]
      rfl
    · rw [chunks_cons hb, List.flatten_cons, ih _ (by have := List.length_pos_iff.2 hb; simp; omega), List.take_append_drop]
theorem chunks_min (w M f : Nat) : ∀ bs : List UInt8, bs.length ≤ M → chunksN (min w M) f bs = chunksN w f bs := by
  induction f with
  | zero => intro bs _; rfl
  | succ f ih =>
    intro bs h
    by_cases hb : bs = []
    · rw [hb, chunks_nil, chunks_nil]
    · rw [chunks_cons hb, chunks_cons hb]
      by_cases hw : w ≤ M
      · rw [Nat.min_eq_left hw, ← ih (bs.drop w) (by simp; omega), Nat.min_eq_left hw]
      · rw [Nat.min_eq_right (by omega), List.take_of_length_le h, List.take_of_length_le (by omega), List.drop_of_length_le h, List.drop_of_length_le (by omega), chunks_nil, chunks_nil]

def openB : ByteArray := ⟨#[40]⟩
def mkS (b : List UInt8) : ByteArray := ⟨b.toArray⟩
def wordsF (ss : List ByteArray) (l : List Int) (w : Nat) : List ByteArray := openB :: ss ++ closeB :: (chunksF w (codeF l)).map mkS
/-- The words of a code, or the error. -/
def WrIs (ss : List ByteArray) (l : List Int) (width : Int) (ws : List ByteArray) (er : Nat) : Prop :=
  (¬ LabsOk ss ∧ ws = [] ∧ er = 20) ∨ (LabsOk ss ∧ ¬ NumOk l ∧ ws = [] ∧ er = 21) ∨ (LabsOk ss ∧ NumOk l ∧ ws = wordsF ss l (max width 1).toNat ∧ er = 0)
theorem WrIs.same {ss : List ByteArray} {l : List Int} {width : Int} {ws ws' : List ByteArray} {er er' : Nat} (h : WrIs ss l width ws er) (h' : WrIs ss l width ws' er') : ws = ws' ∧ er = er' := by
  rcases h with ⟨a, rfl, rfl⟩ | ⟨a, b, rfl, rfl⟩ | ⟨a, b, rfl, rfl⟩ <;> rcases h' with ⟨a', rfl, rfl⟩ | ⟨a', b', rfl, rfl⟩ | ⟨a', b', rfl, rfl⟩ <;> first | exact ⟨rfl, rfl⟩ | exact absurd a' a | exact absurd a a' | exact absurd b b' | exact absurd b' b
theorem labB_close : labB closeB = false := by decide +kernel
theorem LabsOk.noClose {ss : List ByteArray} (h : LabsOk ss) : closeB ∉ ss := fun hm => by
  obtain ⟨k, hk, he⟩ := List.mem_iff_getElem.1 hm
  have := (h k hk hk).1
  rw [he, labB_close] at this
  cases this
theorem first_close {ss : List ByteArray} (h : LabsOk ss) (l : List Int) (w : Nat) : FirstAt (wordsF ss l w) closeB (ss.length + 1) := by
  refine ⟨by simp [wordsF], ?_, ?_⟩
  · simp [wordsF]
  · have e : (wordsF ss l w).take (ss.length + 1) = openB :: ss := by simp [wordsF]
    rw [e]
    intro hm
    rcases List.mem_cons.1 hm with h1 | h1
    · have : closeB.data = openB.data := by rw [h1]
      revert this
      decide
    · exact h.noClose h1
theorem words_back {ss : List ByteArray} {l : List Int} {w : Nat} (hw : 1 ≤ w) (h1 : LabsOk ss) (h2 : NumOk l) (hl : l.length ≤ 5000) : RdIs (wordsF ss l w) ss l 0 := by
  have hcl : (codeF l).length ≤ 40000 := by
    have := code_len h2 l.length (Nat.le_refl _)
    rw [List.take_length] at this
    omega
  have e1 : ((wordsF ss l w).drop 1).take ss.length = ss := by simp [wordsF]
  refine .inr ⟨ss, codeF l, ⟨by show (openB.toList == [40]) = true; decide +kernel, ss.length + 1, by omega, first_close h1 l w, ?_, ?_, ?_⟩, .inr ⟨hcl, .inr ⟨nums_code h2, rfl, rfl⟩⟩⟩
  · rw [Nat.add_sub_cancel, e1]
    exact h1
  · rw [Nat.add_sub_cancel, e1]
  · have e2 : (wordsF ss l w).drop (ss.length + 1 + 1) = (chunksF w (codeF l)).map mkS := by simp [wordsF]
    rw [e2, List.map_map, show (fun x : ByteArray => x.data.toList) ∘ mkS = id from rfl, List.map_id]
    exact (chunks_flat hw _ _ (Nat.le_refl _)).symm
theorem sum_append8 (a b : List ByteArray) : sumSz (a ++ b) = sumSz a + sumSz b := by simp [sumSz]
theorem sum_mk (l : List (List UInt8)) : sumSz (l.map mkS) = l.flatten.length := by
  induction l with
  | nil => rfl
  | cons x r ih => 
    have e : sumSz ((x :: r).map mkS) = (mkS x).size + sumSz (r.map mkS) := rfl
    have e2 : (mkS x).size = x.length := by show x.toArray.size = _; simp
    rw [e, e2, ih, List.flatten_cons, List.length_append]
theorem words_len (ss : List ByteArray) {l : List Int} (w : Nat) (h2 : NumOk l) : (wordsF ss l w).length ≤ ss.length + 2 + 8 * l.length := by
  have := code_len h2 l.length (Nat.le_refl _)
  rw [List.take_length] at this
  have := chunks_len w (codeF l).length (codeF l)
  simp [wordsF, chunksF]
  omega
theorem words_sum (ss : List ByteArray) {l : List Int} {w : Nat} (hw : 1 ≤ w) (h2 : NumOk l) : sumSz (wordsF ss l w) ≤ sumSz ss + 2 + 8 * l.length := by
  have := code_len h2 l.length (Nat.le_refl _)
  rw [List.take_length] at this
  have e : wordsF ss l w = [openB] ++ (ss ++ ([closeB] ++ (chunksF w (codeF l)).map mkS)) := by simp [wordsF]
  rw [e, sum_append8, sum_append8, sum_append8, sum_mk, chunksF, chunks_flat hw _ _ (Nat.le_refl _)]
  have : sumSz [openB] = 1 := rfl
  have : sumSz [closeB] = 1 := rfl
  omega
end Go.Proofs.Ytjdomdeejibnmaa.Tok
