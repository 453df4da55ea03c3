/- Arguments that are slices of structs of plain cells, opened to what they read as. -/
import Derived.Test.YtdffgkhlkbaecaaDepthRel
import Derived.ProofKit
import Derived.OpenShut
import Derived.Deep.Slices
import Derived.Deep.Fields
namespace Go.Proofs.Ytdffgkhlkbaecaa.Tok
open Go.ChangeShapes Go.WideShapes Go.ChangeAt Go.RowKit Go.Proofs.Ytdffgkhlkbaecaa

theorem rd_of' {w : World} {a : Addr} {size n : Nat} {xs : List Value} (hl : xs.length = n * size) (hs : 0 < size) (h : ∀ j u, xs[j]? = some u → w.cell? (a.add j) = some u) : Rd w w.heap.size size (some a) n xs := by
  refine ⟨hl, fun hn => ?_⟩
  obtain ⟨b, off, spot⟩ := a
  have hlen : 0 < xs.length := by rw [hl]; exact Nat.mul_pos hn hs
  have h0 := h 0 _ (List.getElem?_eq_getElem hlen)
  have hspot : spot = none := by simpa [Addr.add] using World.cell?_spot h0
  subst hspot
  refine ⟨b, off, rfl, ?_, fun j u hu => by rw [← Go.WideShapes.add_plain]; exact h j u hu⟩
  have := block_lt_of_cell h0
  simpa [Addr.add] using this
theorem five_of {l : List Value} (h : l.length = 5) : ∃ a b c d e, l = [a, b, c, d, e] := by
  match l, h with
  | [a, b, c, d, e], _ => exact ⟨a, b, c, d, e, rfl⟩
theorem u8_of {z : Int} (h : (Lit.int .u8 z).wf = true) : ∃ k : Nat, z = (k : Nat) ∧ k ≤ 255 := by
  have : 0 ≤ z ∧ z ≤ 255 := by simpa [Lit.wf, IntKind.min, IntKind.max, IntKind.signed, IntKind.bits] using h
  exact ⟨z.toNat, by omega, by omega⟩

section
variable {H : Type} {enc : TypeId × Value → H} {W : World}
set_option maxRecDepth 100000 in
theorem open_rows {α : Type} (N : Nat) (hN : 0 < N) (f : α → List Value) (hf5 : ∀ x, (f x).length = N) (Q : α → Prop) (TS TE : TypeId) (hTS : Try.prog.underlying TS = some (.slice TE)) (hc2 : Try.prog.cellsOf TE = N)
    (hop : ∀ {fuel : Nat} {cs : List Value} {x : DataW H × List MemPlace}, DataW.trod enc Try.prog W 0 (fun _ => true) true fuel TE cs = some x → ∃ t : α, Q t ∧ cs = f t)
    {r : Reach} {b0 : Nat} {v : Value} {d : DataW H} {p : List MemPlace} (hok : Value.okWide Try.prog W r b0 TS v) (h : DataW.Trod enc Try.prog W 0 (fun _ => true) true TS v d p) :
    ∃ (A : Option Addr) (n c : Nat) (ts : List α), v = .slice A n c ∧ n ≤ maxLen ∧ (∀ t ∈ ts, Q t) ∧ Rd W W.heap.size N A n (ts.flatMap f) := by
  obtain ⟨A, n, c, rfl⟩ := okWide_slice hTS hok
  obtain ⟨fuel, hf⟩ := h
  rcases Go.Deep.open_slice hTS hf with ⟨hcs, _⟩ | ⟨a, len, cap, m, n', D, Pl, hcs, _, hl, hm, hmm, _, hi⟩
  · simp only [Value.cells, List.cons.injEq, Value.slice.injEq, and_true] at hcs
    obtain ⟨rfl, rfl, rfl⟩ := hcs
    exact ⟨none, 0, 0, [], rfl, Nat.zero_le _, by simp, Rd.nil _ _ _ _⟩
  · simp only [Value.cells, List.cons.injEq, Value.slice.injEq, and_true] at hcs
    obtain ⟨rfl, rfl, rfl⟩ := hcs
    rw [hc2] at hi
    have hmn : n ≤ m := by rw [hmm]; simpa using hl
    have step : ∀ k, k ≤ n → ∃ ts : List α, ts.length = k ∧ (∀ t ∈ ts, Q t) ∧ ∀ j u, (ts.flatMap f)[j]? = some u → W.cell? (a.add j) = some u := by
      intro k
      induction k with
      | zero => exact fun _ => ⟨[], rfl, by simp, fun j u hu => by simp at hu⟩
      | succ k ih =>
        intro hk
        obtain ⟨ts, hlen, hq, hcell⟩ := ih (by omega)
        obtain ⟨cs', hcs', ht⟩ := hi k (by omega)
        obtain ⟨t, hqt, rfl⟩ := hop ht
        obtain ⟨_, _, hat⟩ := World.cells?_some hcs'
        refine ⟨ts ++ [t], by simp [hlen], ?_, fun j u hu => ?_⟩
        · intro s hs
          rcases List.mem_append.1 hs with h1 | h1
          · exact hq s h1
          · simp at h1; subst h1; exact hqt
        · have hfl : (ts.flatMap f).length = k * N := by rw [flatN_len N f hf5, hlen]
          rw [List.flatMap_append] at hu
          rcases Nat.lt_or_ge j (k * N) with h1 | h1
          · rw [List.getElem?_append_left (by omega)] at hu
            exact hcell j u hu
          · rw [List.getElem?_append_right (by omega), hfl] at hu
            rw [show [t].flatMap f = f t by simp] at hu
            have hj2 : j - k * N < N := by have := (List.getElem?_eq_some_iff.1 hu).1; rw [hf5] at this; exact this
            have := hat (j - k * N) (by first | exact hj2 | (rw [hf5]; exact hj2))
            rw [Go.Deep.add_add, show k * N + (j - k * N) = j from by omega] at this
            rw [this]
            exact hu
    obtain ⟨ts, hlen, hq, hcell⟩ := step n (Nat.le_refl _)
    exact ⟨_, n, c, ts, rfl, by omega, hq, rd_of' (by rw [flatN_len N f hf5, hlen]) hN hcell⟩

set_option maxRecDepth 100000 in
theorem op_fields : ∃ f0 f1 f2 f3 f4 : Field, Try.prog.underlying 31 = some (.struct #[f0, f1, f2, f3, f4]) ∧ f0.type = 5 ∧ f1.type = 5 ∧ f2.type = 5 ∧ f3.type = 9 ∧ f4.type = 3 ∧ Go.Deep.oneCellFields Try.prog #[f0, f1, f2, f3, f4] = true :=
  ⟨_, _, _, _, _, Try.underlying31, rfl, rfl, rfl, rfl, rfl, by kernel_rfl⟩
set_option maxRecDepth 100000 in
theorem open_op {fuel : Nat} {cs : List Value} {x : DataW H × List MemPlace} (h : DataW.trod enc Try.prog W 0 (fun _ => true) true fuel 31 cs = some x) : ∃ t : OpT, OpOk t ∧ cs = opV t := by
  obtain ⟨f0, f1, f2, f3, f4, hu, h0, h1, h2, h3, h4, hone⟩ := op_fields
  obtain ⟨xs, n, _, _, hl, hx, hf⟩ := DataW.trod_struct hu h
  have hc2 : Try.prog.cellsOf 31 = 5 := by kernel_rfl
  obtain ⟨a, b, c, d, e, rfl⟩ := five_of (hl.trans hc2)
  obtain ⟨o0, k0⟩ := Go.Deep.hone_of hone 0 f0 rfl
  obtain ⟨o1, k1⟩ := Go.Deep.hone_of hone 1 f1 rfl
  obtain ⟨o2, k2⟩ := Go.Deep.hone_of hone 2 f2 rfl
  obtain ⟨o3, k3⟩ := Go.Deep.hone_of hone 3 f3 rfl
  obtain ⟨o4, k4⟩ := Go.Deep.hone_of hone 4 f4 rfl
  have g0 := hf 0 f0 rfl
  have g1 := hf 1 f1 rfl
  have g2 := hf 2 f2 rfl
  have g3 := hf 3 f3 rfl
  have g4 := hf 4 f4 rfl
  have hx2 : xs.length = 5 := hx
  rw [o0, k0, h0, List.getElem?_eq_getElem (by omega)] at g0
  rw [o1, k1, h1, List.getElem?_eq_getElem (by omega)] at g1
  rw [o2, k2, h2, List.getElem?_eq_getElem (by omega)] at g2
  rw [o3, k3, h3, List.getElem?_eq_getElem (by omega)] at g3
  rw [o4, k4, h4, List.getElem?_eq_getElem (by omega)] at g4
  obtain ⟨z0, e0, _, w0⟩ := DataW.trod_int Try.underlying5 g0
  obtain ⟨z1, e1, _, w1⟩ := DataW.trod_int Try.underlying5 g1
  obtain ⟨z2, e2, _, w2⟩ := DataW.trod_int Try.underlying5 g2
  obtain ⟨s, e3, _⟩ := DataW.trod_string Try.underlying9 g3
  obtain ⟨z4, e4, _⟩ := DataW.trod_int Try.underlying3 g4
  obtain ⟨i0, rfl, l0⟩ := u8_of w0
  obtain ⟨i1, rfl, l1⟩ := u8_of w1
  obtain ⟨i2, rfl, l2⟩ := u8_of w2
  simp at e0 e1 e2 e3 e4
  subst e0 e1 e2 e3 e4
  exact ⟨⟨i0, i1, i2, s, z4⟩, ⟨l0, l1, l2⟩, rfl⟩
set_option maxRecDepth 100000 in
theorem open_ops {r : Reach} {b0 : Nat} {v : Value} {d : DataW H} {p : List MemPlace} (hok : Value.okWide Try.prog W r b0 22 v) (h : DataW.Trod enc Try.prog W 0 (fun _ => true) true 22 v d p) :
    ∃ (A : Option Addr) (n c : Nat) (ts : List OpT), v = .slice A n c ∧ n ≤ maxLen ∧ (∀ t ∈ ts, OpOk t) ∧ Rd W W.heap.size 5 A n (ts.flatMap opV) :=
  open_rows 5 (by omega) opV (fun _ => rfl) OpOk 22 31 Try.underlying22 (by kernel_rfl) open_op hok h
end
end Go.Proofs.Ytdffgkhlkbaecaa.Tok
