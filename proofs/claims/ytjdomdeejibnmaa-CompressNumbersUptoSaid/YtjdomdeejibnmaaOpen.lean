/- Arguments that are slices, opened to what they read as. -/
import Derived.Test.YtjdomdeejibnmaaTexts
import Derived.ProofKit
import Derived.OpenShut
import Derived.SliceStrings
import Derived.Deep.Slices
import Derived.Deep.Fields
namespace Go.Proofs.Ytjdomdeejibnmaa.Tok
open Go.ChangeShapes Go.WideShapes Go.ChangeAt Go.RowKit Go.Proofs.Ytjdomdeejibnmaa

theorem rd_of {w : World} {a : Addr} {size n : Nat} {xs : List Value} (hl : xs.length = n * size) (hs : 0 < size) (h : ∀ j u, xs[j]? = some u → w.cell? (a.add j) = some u) : Rd w w.heap.size size (some a) n xs := by
  refine ⟨hl, fun hn => ?_⟩
  obtain ⟨b, off, spot⟩ := a
  have hlen : 0 < xs.length := by rw [hl]; exact Nat.mul_pos hn hs
  have h0 := h 0 _ (List.getElem?_eq_getElem hlen)
  have hspot : spot = none := by simpa [Addr.add] using World.cell?_spot h0
  subst hspot
  refine ⟨b, off, rfl, ?_, fun j u hu => by rw [← Go.WideShapes.add_plain]; exact h j u hu⟩
  have := block_lt_of_cell h0
  simpa [Addr.add] using this

section
variable {H : Type} {enc : TypeId × Value → H} {W : World}

set_option maxRecDepth 100000 in
theorem open_strs {r : Reach} {b0 : Nat} {v : Value} {d : DataW H} {p : List MemPlace} (hok : Value.okWide Try.prog W r b0 22 v) (h : DataW.Trod enc Try.prog W 0 (fun _ => true) true 22 v d p) :
    ∃ (A : Option Addr) (n c : Nat) (ss : List ByteArray), v = .slice A n c ∧ n ≤ maxLen ∧ ss.length = n ∧ (∀ s ∈ ss, s.size ≤ maxLen) ∧ Rd W W.heap.size 1 A n (ss.map Value.string) := by
  obtain ⟨A, n, c, rfl⟩ := okWide_slice Try.underlying22 hok
  obtain ⟨fuel, hf⟩ := h
  rcases open_strings Try.underlying22 Try.underlying9 (by kernel_rfl) hf with ⟨hcs, _⟩ | ⟨a, len, cap, ss, hcs, _, hl, hm, hsl, _, hc, hw⟩
  · simp only [Value.cells, List.cons.injEq, Value.slice.injEq, and_true] at hcs
    obtain ⟨rfl, rfl, rfl⟩ := hcs
    exact ⟨none, 0, 0, [], rfl, Nat.zero_le _, rfl, fun s hs => by simp at hs, Rd.nil _ _ _ _⟩
  · simp only [Value.cells, List.cons.injEq, Value.slice.injEq, and_true] at hcs
    obtain ⟨rfl, rfl, rfl⟩ := hcs
    have hsl' : ss.length = c := by simpa using hsl
    have hlt : (ss.take n).length = n := by rw [List.length_take]; omega
    refine ⟨_, n, c, ss.take n, rfl, by omega, hlt, fun s hs => hw s (List.mem_of_mem_take hs), rd_of (by rw [List.length_map, hlt]; omega) (by omega) ?_⟩
    intro j u hu
    rw [List.getElem?_map] at hu
    cases hj : (ss.take n)[j]? with
    | none => simp [hj] at hu
    | some s =>
      rw [hj] at hu
      injection hu with hu
      subst hu
      have hjn : j < n := by
        have := (List.getElem?_eq_some_iff.1 hj).1
        omega
      have hjs : ss[j]? = some s := by rw [List.getElem?_take] at hj; simpa [hjn] using hj
      rw [hc j (by omega), List.getD, hjs]
      rfl

theorem two_of {l : List Value} (h : l.length = 2) : ∃ a b, l = [a, b] := by
  match l, h with
  | [a, b], _ => exact ⟨a, b, rfl⟩

end
end Go.Proofs.Ytjdomdeejibnmaa.Tok
