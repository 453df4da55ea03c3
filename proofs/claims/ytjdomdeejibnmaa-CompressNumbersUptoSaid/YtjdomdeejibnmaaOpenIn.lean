/- A []string of an argument of bounded bulk: its room and the sum of its letters too. -/
import Derived.Test.YtjdomdeejibnmaaOpen
import Derived.Test.YtjdomdeejibnmaaRows
import Derived.Test.YtjdomdeejibnmaaJoin
namespace Go.Proofs.Ytjdomdeejibnmaa.Tok
open Go.ChangeShapes Go.WideShapes Go.ChangeAt Go.RowKit Go.Proofs.Ytjdomdeejibnmaa

theorem bulk_strs {H : Type} : ∀ ss : List ByteArray, sumSz ss ≤ Rows.uptoBulkAll (strs (H := H) ss)
  | [] => Nat.le_refl _
  | s :: l => by
    have h := bulk_strs (H := H) l
    have e : strs (H := H) (s :: l) = .lit (.string s.data.toList) :: strs l := rfl
    rw [e]
    simp only [Rows.uptoBulkAll, Rows.uptoBulk, sumSz, List.map_cons, List.sum_cons]
    have e2 : s.data.toList.length = s.size := Array.length_toList
    unfold sumSz at h
    omega

section
variable {H : Type} {enc : TypeId × Value → H} {W : World}

/-- Words as they come in. -/
structure Woven (w : World) (A : Option Addr) (n c : Nat) (gs : List ByteArray) : Prop where
  len : gs.length = n
  cap : n ≤ c
  sum : sumSz gs ≤ 1048576
  rd : Rd w w.heap.size 1 A n (gs.map Value.string)

set_option maxRecDepth 100000 in
theorem open_strs_in {r : Reach} {b0 : Nat} {v : Value} {d : DataW H} {p : List MemPlace} (hok : Value.okWide Try.prog W r b0 22 v) (h : DataW.Trod enc Try.prog W 0 (fun _ => true) true 22 v d p) (hd : Rows.uptoBulk d ≤ 1048576) :
    ∃ (A : Option Addr) (n c : Nat) (ss : List ByteArray), v = .slice A n c ∧ n ≤ maxLen ∧ Woven W A n c ss := by
  obtain ⟨A, n, c, rfl⟩ := okWide_slice Try.underlying22 hok
  obtain ⟨fuel, hf⟩ := h
  rcases open_strings Try.underlying22 Try.underlying9 (by kernel_rfl) hf with ⟨hcs, _⟩ | ⟨a, len, cap, ss, hcs, _, hl, hm, hsl, hx, hc, hw⟩
  · simp only [Value.cells, List.cons.injEq, Value.slice.injEq, and_true] at hcs
    obtain ⟨rfl, rfl, rfl⟩ := hcs
    exact ⟨none, 0, 0, [], rfl, Nat.zero_le _, ⟨rfl, Nat.le_refl _, Nat.zero_le _, Rd.nil _ _ _ _⟩⟩
  · simp only [Value.cells, List.cons.injEq, Value.slice.injEq, and_true] at hcs
    obtain ⟨rfl, rfl, rfl⟩ := hcs
    injection hx with hx _
    subst hx
    have hsl' : ss.length = c := by simpa using hsl
    have hlt : (ss.take n).length = n := by rw [List.length_take]; omega
    have hb := bulk_strs (H := H) (ss.take n)
    simp only [Rows.uptoBulk] at hd
    refine ⟨_, n, c, ss.take n, rfl, by omega, ⟨hlt, hl, by omega, rd_of (by rw [List.length_map, hlt]; omega) (by omega) ?_⟩⟩
    intro j u hu
    rw [List.getElem?_map] at hu
    cases hj : (ss.take n)[j]? with
    | none => simp [hj] at hu
    | some s =>
      rw [hj] at hu
      injection hu with hu
      subst hu
      have hjn : j < n := by
        have := (List.getElem?_eq_some_iff.1 hj).1
        omega
      have hjs : ss[j]? = some s := by rw [List.getElem?_take] at hj; simpa [hjn] using hj
      rw [hc j (by omega), List.getD, hjs]
      rfl
end
end Go.Proofs.Ytjdomdeejibnmaa.Tok
