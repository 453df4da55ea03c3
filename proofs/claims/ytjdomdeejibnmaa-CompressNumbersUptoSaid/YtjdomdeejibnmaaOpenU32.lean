/- Arguments that are slices of rows of plain cells, opened to what they read as; slices of uint32. -/
import Derived.Test.YtjdomdeejibnmaaOpen
import Derived.ProofKit
import Derived.OpenShut
import Derived.Deep.Slices
import Derived.Deep.Fields
namespace Go.Proofs.Ytjdomdeejibnmaa.Tok
open Go.ChangeShapes Go.WideShapes Go.ChangeAt Go.RowKit Go.Proofs.Ytjdomdeejibnmaa

theorem rd_of8 {w : World} {a : Addr} {size n : Nat} {xs : List Value} (hl : xs.length = n * size) (hs : 0 < size) (h : ∀ j u, xs[j]? = some u → w.cell? (a.add j) = some u) : Rd w w.heap.size size (some a) n xs := by
  refine ⟨hl, fun hn => ?_⟩
  obtain ⟨b, off, spot⟩ := a
  have hlen : 0 < xs.length := by rw [hl]; exact Nat.mul_pos hn hs
  have h0 := h 0 _ (List.getElem?_eq_getElem hlen)
  have hspot : spot = none := by simpa [Addr.add] using World.cell?_spot h0
  subst hspot
  refine ⟨b, off, rfl, ?_, fun j u hu => by rw [← Go.WideShapes.add_plain]; exact h j u hu⟩
  have := block_lt_of_cell h0
  simpa [Addr.add] using this
theorem flatN_len8 {α : Type} (N : Nat) (f : α → List Value) (hf : ∀ x, (f x).length = N) (l : List α) : (l.flatMap f).length = l.length * N := by
  induction l with
  | nil => simp
  | cons x l ih => rw [List.flatMap_cons, List.length_append, hf, ih, List.length_cons, Nat.succ_mul]; omega
section
variable {H : Type} {enc : TypeId × Value → H} {W : World}
set_option maxRecDepth 100000 in
theorem open_rows8 {α : Type} (N : Nat) (hN : 0 < N) (f : α → List Value) (hf5 : ∀ x, (f x).length = N) (Q : α → Prop) (TS TE : TypeId) (hTS : Try.prog.underlying TS = some (.slice TE)) (hc2 : Try.prog.cellsOf TE = N)
    (hop : ∀ {fuel : Nat} {cs : List Value} {x : DataW H × List MemPlace}, DataW.trod enc Try.prog W 0 (fun _ => true) true fuel TE cs = some x → ∃ t : α, Q t ∧ cs = f t)
    {r : Reach} {b0 : Nat} {v : Value} {d : DataW H} {p : List MemPlace} (hok : Value.okWide Try.prog W r b0 TS v) (h : DataW.Trod enc Try.prog W 0 (fun _ => true) true TS v d p) :
    ∃ (A : Option Addr) (n c : Nat) (ts : List α), v = .slice A n c ∧ n ≤ maxLen ∧ (∀ t ∈ ts, Q t) ∧ Rd W W.heap.size N A n (ts.flatMap f) := by
  obtain ⟨A, n, c, rfl⟩ := okWide_slice hTS hok
  obtain ⟨fuel, hf⟩ := h
  rcases Go.Deep.open_slice hTS hf with ⟨hcs, _⟩ | ⟨a, len, cap, m, n', D, Pl, hcs, _, hl, hm, hmm, _, hi⟩
  · simp only [Value.cells, List.cons.injEq, Value.slice.injEq, and_true] at hcs
    obtain ⟨rfl, rfl, rfl⟩ := hcs
    exact ⟨none, 0, 0, [], rfl, Nat.zero_le _, by simp, Rd.nil _ _ _ _⟩
  · simp only [Value.cells, List.cons.injEq, Value.slice.injEq, and_true] at hcs
    obtain ⟨rfl, rfl, rfl⟩ := hcs
    rw [hc2] at hi
    have hmn : n ≤ m := by rw [hmm]; simpa using hl
    have step : ∀ k, k ≤ n → ∃ ts : List α, ts.length = k ∧ (∀ t ∈ ts, Q t) ∧ ∀ j u, (ts.flatMap f)[j]? = some u → W.cell? (a.add j) = some u := by
      intro k
      induction k with
      | zero => exact fun _ => ⟨[], rfl, by simp, fun j u hu => by simp at hu⟩
      | succ k ih =>
        intro hk
        obtain ⟨ts, hlen, hq, hcell⟩ := ih (by omega)
        obtain ⟨cs', hcs', ht⟩ := hi k (by omega)
        obtain ⟨t, hqt, rfl⟩ := hop ht
        obtain ⟨_, _, hat⟩ := World.cells?_some hcs'
        refine ⟨ts ++ [t], by simp [hlen], ?_, fun j u hu => ?_⟩
        · intro s hs
          rcases List.mem_append.1 hs with h1 | h1
          · exact hq s h1
          · simp at h1; subst h1; exact hqt
        · have hfl : (ts.flatMap f).length = k * N := by rw [flatN_len8 N f hf5, hlen]
          rw [List.flatMap_append] at hu
          rcases Nat.lt_or_ge j (k * N) with h1 | h1
          · rw [List.getElem?_append_left (by omega)] at hu
            exact hcell j u hu
          · rw [List.getElem?_append_right (by omega), hfl] at hu
            rw [show [t].flatMap f = f t by simp] at hu
            have hj2 : j - k * N < N := by have := (List.getElem?_eq_some_iff.1 hu).1; rw [hf5] at this; exact this
            have := hat (j - k * N) (by first | exact hj2 | (rw [hf5]; exact hj2))
            rw [Go.Deep.add_add, show k * N + (j - k * N) = j from by omega] at this
            rw [this]
            exact hu
    obtain ⟨ts, hlen, hq, hcell⟩ := step n (Nat.le_refl _)
    exact ⟨_, n, c, ts, rfl, by omega, hq, rd_of8 (by rw [flatN_len8 N f hf5, hlen]) hN hcell⟩

theorem flat_u32 : ∀ l : List Int, l.flatMap (fun z => [Value.int .u32 z]) = l.map (Value.int .u32)
  | [] => rfl
  | z :: l => by rw [List.flatMap_cons, flat_u32 l]; rfl
set_option maxRecDepth 100000 in
theorem open_u32l {r : Reach} {b0 : Nat} {v : Value} {d : DataW H} {p : List MemPlace} (hok : Value.okWide Try.prog W r b0 42 v) (h : DataW.Trod enc Try.prog W 0 (fun _ => true) true 42 v d p) :
    ∃ (A : Option Addr) (n c : Nat) (ts : List Int), v = .slice A n c ∧ n ≤ maxLen ∧ (∀ t ∈ ts, 0 ≤ t ∧ t ≤ 4294967295) ∧ Rd W W.heap.size 1 A n (ts.map (Value.int .u32)) := by
  obtain ⟨A, n, c, ts, h1, h2, h3, h4⟩ := open_rows8 1 (by decide) (fun z : Int => [Value.int .u32 z]) (fun _ => rfl) (fun z => (Lit.int .u32 z).wf = true) 42 43 Try.underlying42 (by kernel_rfl) (fun hx => by
    obtain ⟨z, e, _, w⟩ := DataW.trod_int Try.underlying43 hx
    exact ⟨z, w, e⟩) hok h
  exact ⟨A, n, c, ts, h1, h2, fun t ht => by have := h3 t ht; simpa [Lit.wf, IntKind.min, IntKind.max, IntKind.signed, IntKind.bits] using this, by rw [← flat_u32]; exact h4⟩
end
end Go.Proofs.Ytjdomdeejibnmaa.Tok
