/- Arguments that are slices, opened to what they read as. -/
import Derived.Test.YtmekdghnkkephaaTexts
import Derived.ProofKit
import Derived.OpenShut
import Derived.SliceStrings
import Derived.Deep.Slices
import Derived.Deep.Fields
namespace Go.Proofs.Ytmekdghnkkephaa.Tok
open Go.ChangeShapes Go.WideShapes Go.ChangeAt Go.RowKit Go.Proofs.Ytmekdghnkkephaa

theorem rd_of {w : World} {a : Addr} {size n : Nat} {xs : List Value} (hl : xs.length = n * size) (hs : 0 < size) (h : ∀ j u, xs[j]? = some u → w.cell? (a.add j) = some u) : Rd w w.heap.size size (some a) n xs := by
  refine ⟨hl, fun hn => ?_⟩
  obtain ⟨b, off, spot⟩ := a
  have hlen : 0 < xs.length := by rw [hl]; exact Nat.mul_pos hn hs
  have h0 := h 0 _ (List.getElem?_eq_getElem hlen)
  have hspot : spot = none := by simpa [Addr.add] using World.cell?_spot h0
  subst hspot
  refine ⟨b, off, rfl, ?_, fun j u hu => by rw [← Go.WideShapes.add_plain]; exact h j u hu⟩
  have := block_lt_of_cell h0
  simpa [Addr.add] using this

section
variable {H : Type} {enc : TypeId × Value → H} {W : World}

set_option maxRecDepth 100000 in
theorem open_strs {r : Reach} {b0 : Nat} {v : Value} {d : DataW H} {p : List MemPlace} (hok : Value.okWide Try.prog W r b0 43 v) (h : DataW.Trod enc Try.prog W 0 (fun _ => true) true 43 v d p) :
    ∃ (A : Option Addr) (n c : Nat) (ss : List ByteArray), v = .slice A n c ∧ n ≤ maxLen ∧ ss.length = n ∧ (∀ s ∈ ss, s.size ≤ maxLen) ∧ Rd W W.heap.size 1 A n (ss.map Value.string) := by
  obtain ⟨A, n, c, rfl⟩ := okWide_slice Try.underlying43 hok
  obtain ⟨fuel, hf⟩ := h
  rcases open_strings Try.underlying43 Try.underlying9 (by kernel_rfl) hf with ⟨hcs, _⟩ | ⟨a, len, cap, ss, hcs, _, hl, hm, hsl, _, hc, hw⟩
  · simp only [Value.cells, List.cons.injEq, Value.slice.injEq, and_true] at hcs
    obtain ⟨rfl, rfl, rfl⟩ := hcs
    exact ⟨none, 0, 0, [], rfl, Nat.zero_le _, rfl, fun s hs => by simp at hs, Rd.nil _ _ _ _⟩
  · simp only [Value.cells, List.cons.injEq, Value.slice.injEq, and_true] at hcs
    obtain ⟨rfl, rfl, rfl⟩ := hcs
    have hsl' : ss.length = c := by simpa using hsl
    have hlt : (ss.take n).length = n := by rw [List.length_take]; omega
    refine ⟨_, n, c, ss.take n, rfl, by omega, hlt, fun s hs => hw s (List.mem_of_mem_take hs), rd_of (by rw [List.length_map, hlt]; omega) (by omega) ?_⟩
    intro j u hu
    rw [List.getElem?_map] at hu
    cases hj : (ss.take n)[j]? with
    | none => simp [hj] at hu
    | some s =>
      rw [hj] at hu
      injection hu with hu
      subst hu
      have hjn : j < n := by
        have := (List.getElem?_eq_some_iff.1 hj).1
        omega
      have hjs : ss[j]? = some s := by rw [List.getElem?_take] at hj; simpa [hjn] using hj
      rw [hc j (by omega), List.getD, hjs]
      rfl

set_option maxRecDepth 100000 in
theorem tok_fields : ∃ f0 f1 : Field, Try.prog.underlying 33 = some (.struct #[f0, f1]) ∧ f0.type = 9 ∧ f1.type = 3 ∧ Go.Deep.oneCellFields Try.prog #[f0, f1] = true :=
  ⟨_, _, Try.underlying33, rfl, rfl, by kernel_rfl⟩

theorem two_of {l : List Value} (h : l.length = 2) : ∃ a b, l = [a, b] := by
  match l, h with
  | [a, b], _ => exact ⟨a, b, rfl⟩

set_option maxRecDepth 100000 in
theorem open_tok {fuel : Nat} {cs : List Value} {x : DataW H × List MemPlace} (h : DataW.trod enc Try.prog W 0 (fun _ => true) true fuel 33 cs = some x) : ∃ t : ByteArray × Int, cs = tokI t := by
  obtain ⟨f0, f1, hu, h0, h1, hone⟩ := tok_fields
  obtain ⟨xs, n, _, _, hl, hx, hf⟩ := DataW.trod_struct hu h
  have hc2 : Try.prog.cellsOf 33 = 2 := by kernel_rfl
  obtain ⟨a, b, rfl⟩ := two_of (hl.trans hc2)
  obtain ⟨o0, k0⟩ := Go.Deep.hone_of hone 0 f0 rfl
  obtain ⟨o1, k1⟩ := Go.Deep.hone_of hone 1 f1 rfl
  have g0 := hf 0 f0 rfl
  have g1 := hf 1 f1 rfl
  have hx2 : xs.length = 2 := hx
  rw [o0, k0, h0, List.getElem?_eq_getElem (by omega)] at g0
  rw [o1, k1, h1, List.getElem?_eq_getElem (by omega)] at g1
  obtain ⟨s, e0, _⟩ := DataW.trod_string Try.underlying9 g0
  obtain ⟨z, e1, _⟩ := DataW.trod_int Try.underlying3 g1
  simp at e0 e1
  subst e0 e1
  exact ⟨(s, z), rfl⟩

set_option maxRecDepth 100000 in
theorem open_toks {r : Reach} {b0 : Nat} {v : Value} {d : DataW H} {p : List MemPlace} (hok : Value.okWide Try.prog W r b0 23 v) (h : DataW.Trod enc Try.prog W 0 (fun _ => true) true 23 v d p) :
    ∃ (A : Option Addr) (n c : Nat) (ts : List (ByteArray × Int)), v = .slice A n c ∧ n ≤ maxLen ∧ Rd W W.heap.size 2 A n (ts.flatMap tokI) := by
  obtain ⟨A, n, c, rfl⟩ := okWide_slice Try.underlying23 hok
  obtain ⟨fuel, hf⟩ := h
  have hc2 : Try.prog.cellsOf 33 = 2 := by kernel_rfl
  rcases Go.Deep.open_slice Try.underlying23 hf with ⟨hcs, _⟩ | ⟨a, len, cap, m, n', D, Pl, hcs, _, hl, hm, hmm, _, hi⟩
  · simp only [Value.cells, List.cons.injEq, Value.slice.injEq, and_true] at hcs
    obtain ⟨rfl, rfl, rfl⟩ := hcs
    exact ⟨none, 0, 0, [], rfl, Nat.zero_le _, Rd.nil _ _ _ _⟩
  · simp only [Value.cells, List.cons.injEq, Value.slice.injEq, and_true] at hcs
    obtain ⟨rfl, rfl, rfl⟩ := hcs
    rw [hc2] at hi
    have hmn : n ≤ m := by rw [hmm]; simpa using hl
    have step : ∀ k, k ≤ n → ∃ ts : List (ByteArray × Int), ts.length = k ∧ ∀ j u, (ts.flatMap tokI)[j]? = some u → W.cell? (a.add j) = some u := by
      intro k
      induction k with
      | zero => exact fun _ => ⟨[], rfl, fun j u hu => by simp at hu⟩
      | succ k ih =>
        intro hk
        obtain ⟨ts, hlen, hcell⟩ := ih (by omega)
        obtain ⟨cs', hcs', ht⟩ := hi k (by omega)
        obtain ⟨t, rfl⟩ := open_tok ht
        obtain ⟨_, _, hat⟩ := World.cells?_some hcs'
        refine ⟨ts ++ [t], by simp [hlen], fun j u hu => ?_⟩
        have hfl : (ts.flatMap tokI).length = k * 2 := by rw [flat2_len tokI tokI_len, hlen]
        rw [List.flatMap_append] at hu
        rcases Nat.lt_or_ge j (k * 2) with h1 | h1
        · rw [List.getElem?_append_left (by omega)] at hu
          exact hcell j u hu
        · rw [List.getElem?_append_right (by omega), hfl] at hu
          rw [show [t].flatMap tokI = tokI t by simp] at hu
          have hj2 : j - k * 2 < 2 := (List.getElem?_eq_some_iff.1 hu).1
          have := hat (j - k * 2) hj2
          rw [Go.Deep.add_add, show k * 2 + (j - k * 2) = j from by omega] at this
          rw [this]
          exact hu
    obtain ⟨ts, hlen, hcell⟩ := step n (Nat.le_refl _)
    exact ⟨_, n, c, ts, rfl, by omega, rd_of (by rw [flat2_len tokI tokI_len, hlen]) (by omega) hcell⟩
end
end Go.Proofs.Ytmekdghnkkephaa.Tok
