/- strings.Join without a separator: how long the text is. -/
import Derived.Test.YtjdomdeejibnmaaShelf
import Derived.Test.YtjdomdeejibnmaaMem
import Derived.WalkKit
namespace Go.Proofs.Ytjdomdeejibnmaa.Tok
open Go.RowKit Go.Proofs.Ytjdomdeejibnmaa

def sumSz (ss : List ByteArray) : Nat := (ss.map (·.size)).sum
theorem sum_mem {ss : List ByteArray} {s : ByteArray} (h : s ∈ ss) : s.size ≤ sumSz ss := by
  induction ss with
  | nil => cases h
  | cons x l ih =>
    unfold sumSz at *
    rw [List.map_cons, List.sum_cons]
    rcases List.mem_cons.1 h with rfl | h
    · omega
    · have := ih h; omega
theorem join_flat : ∀ (l : List (List UInt8)), (Lib.join l []).length = (l.map List.length).sum
  | [] => rfl
  | x :: r => by
    rw [Lib.join_cons]
    unfold Lib.joinTail
    simp
theorem join_len (ss : List ByteArray) : (Lib.join (ss.map (·.data.toList)) []).length = sumSz ss := by
  rw [join_flat, List.map_map]
  unfold sumSz
  congr 1

theorem join_any (A : Option Addr) (n c : Nat) (ss : List ByteArray) (w : World) (hl : ss.length = n) (hn : n ≤ 140737488355328) (hc : n ≤ c) (hz : sumSz ss ≤ 140737488355328) (hr : Rd w w.heap.size 1 A n (ss.map Value.string)) :
    Calls Try.prog 5 #[.slice A n c, .string ⟨#[]⟩] w fun e w' => ∃ o : ByteArray, e = .returned (.string o) ∧ o.size = sumSz ss ∧ Below w.heap.size w w' := by
  rcases Nat.eq_zero_or_pos n with h0 | hpos
  · subst h0
    have : ss = [] := List.eq_nil_of_length_eq_zero hl
    subst this
    refine (Try.strings_Join_none A c ⟨#[]⟩ w).mono ?_
    rintro e w' ⟨rfl, rfl⟩
    exact ⟨_, rfl, rfl, Below.refl _ _⟩
  · obtain ⟨b, off, rfl, hb, hcell⟩ := hr.pos hpos
    subst hl
    refine (Try.strings_Join b off c ss ⟨#[]⟩ w (fun j x hx => hcell j _ (by rw [List.getElem?_map, hx]; rfl)) hb hn hc (by rw [show (⟨#[]⟩ : ByteArray).data.toList = [] from rfl, join_len]; exact hz)).mono ?_
    rintro e w' ⟨rfl, hb'⟩
    refine ⟨_, rfl, ?_, hb'⟩
    rw [← join_len]
    rfl
theorem join_flatten : ∀ (l : List (List UInt8)), Lib.join l [] = l.flatten
  | [] => rfl
  | x :: r => by
    rw [Lib.join_cons]
    unfold Lib.joinTail
    simp
/-- The same, with what the text is. -/
theorem join2_any (A : Option Addr) (n c : Nat) (ss : List ByteArray) (w : World) (hl : ss.length = n) (hn : n ≤ 140737488355328) (hc : n ≤ c) (hz : sumSz ss ≤ 140737488355328) (hr : Rd w w.heap.size 1 A n (ss.map Value.string)) :
    Calls Try.prog 5 #[.slice A n c, .string ⟨#[]⟩] w fun e w' => e = .returned (.string ⟨((ss.map (·.data.toList)).flatten).toArray⟩) ∧ Below w.heap.size w w' := by
  rcases Nat.eq_zero_or_pos n with h0 | hpos
  · subst h0
    have : ss = [] := List.eq_nil_of_length_eq_zero hl
    subst this
    refine (Try.strings_Join_none A c ⟨#[]⟩ w).mono ?_
    rintro e w' ⟨rfl, rfl⟩
    exact ⟨rfl, Below.refl _ _⟩
  · obtain ⟨b, off, rfl, hb, hcell⟩ := hr.pos hpos
    subst hl
    refine (Try.strings_Join b off c ss ⟨#[]⟩ w (fun j x hx => hcell j _ (by rw [List.getElem?_map, hx]; rfl)) hb hn hc (by rw [show (⟨#[]⟩ : ByteArray).data.toList = [] from rfl, join_len]; exact hz)).mono ?_
    rintro e w' ⟨rfl, hb'⟩
    exact ⟨by rw [← join_flatten], hb'⟩
end Go.Proofs.Ytjdomdeejibnmaa.Tok
