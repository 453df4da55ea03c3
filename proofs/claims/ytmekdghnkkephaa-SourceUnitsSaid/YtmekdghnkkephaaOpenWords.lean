/- A []source.Word of an argument, opened to what it reads as. -/
import Derived.Test.YtmekdghnkkephaaOpen
import Derived.Test.YtmekdghnkkephaaUnits
namespace Go.Proofs.Ytmekdghnkkephaa.Tok
open Go.ChangeShapes Go.WideShapes Go.ChangeAt Go.RowKit Go.Proofs.Ytmekdghnkkephaa

set_option maxRecDepth 100000 in
theorem word_fields : ∃ f0 f1 : Field, Try.prog.underlying 82 = some (.struct #[f0, f1]) ∧ f0.type = 9 ∧ f1.type = 80 ∧ f0.offset = 0 ∧ f1.offset = 1 :=
  ⟨_, _, Try.underlying82, rfl, rfl, rfl, rfl⟩
set_option maxRecDepth 100000 in
theorem place_fields : ∃ f0 f1 : Field, Try.prog.underlying 80 = some (.struct #[f0, f1]) ∧ f0.type = 3 ∧ f1.type = 3 ∧ f0.offset = 0 ∧ f1.offset = 1 :=
  ⟨_, _, Try.underlying80, rfl, rfl, rfl, rfl⟩
theorem three_of {l : List Value} (h : l.length = 3) : ∃ a b c, l = [a, b, c] := by
  match l, h with
  | [a, b, c], _ => exact ⟨a, b, c, rfl⟩

section
variable {H : Type} {enc : TypeId × Value → H} {W : World}

set_option maxRecDepth 100000 in
theorem open_word {fuel : Nat} {cs : List Value} {x : DataW H × List MemPlace} (h : DataW.trod enc Try.prog W 0 (fun _ => true) true fuel 82 cs = some x) : ∃ t : ByteArray × Int × Int, cs = wordI t := by
  obtain ⟨f0, f1, hu, h0, h1, o0, o1⟩ := word_fields
  obtain ⟨e0, e1, hv, i0, i1, p0, p1⟩ := place_fields
  have hc3 : Try.prog.cellsOf 82 = 3 := by kernel_rfl
  have hc2 : Try.prog.cellsOf 80 = 2 := by kernel_rfl
  have hcs : Try.prog.cellsOf 9 = 1 := by kernel_rfl
  have hci : Try.prog.cellsOf 3 = 1 := by kernel_rfl
  obtain ⟨xs, n, _, _, hl, hx, hf⟩ := DataW.trod_struct hu h
  obtain ⟨a, b, c, rfl⟩ := three_of (hl.trans hc3)
  have g0 := hf 0 f0 rfl
  have g1 := hf 1 f1 rfl
  have hx2 : xs.length = 2 := hx
  rw [o0, h0, hcs, List.getElem?_eq_getElem (by omega)] at g0
  rw [o1, h1, hc2, List.getElem?_eq_getElem (by omega)] at g1
  obtain ⟨s, q0, _⟩ := DataW.trod_string Try.underlying9 g0
  obtain ⟨ys, m, _, _, _, hy, hg⟩ := DataW.trod_struct hv g1
  have hy2 : ys.length = 2 := hy
  have k0 := hg 0 e0 rfl
  have k1 := hg 1 e1 rfl
  rw [p0, i0, hci, List.getElem?_eq_getElem (by omega)] at k0
  rw [p1, i1, hci, List.getElem?_eq_getElem (by omega)] at k1
  obtain ⟨y, q1, _⟩ := DataW.trod_int Try.underlying3 k0
  obtain ⟨z, q2, _⟩ := DataW.trod_int Try.underlying3 k1
  simp at q0 q1 q2
  subst q0 q1 q2
  exact ⟨(s, y, z), rfl⟩

set_option maxRecDepth 100000 in
theorem open_words {r : Reach} {b0 : Nat} {v : Value} {d : DataW H} {p : List MemPlace} (hok : Value.okWide Try.prog W r b0 44 v) (h : DataW.Trod enc Try.prog W 0 (fun _ => true) true 44 v d p) :
    ∃ (A : Option Addr) (n c : Nat) (ts : List (ByteArray × Int × Int)), v = .slice A n c ∧ n ≤ maxLen ∧ Rd W W.heap.size 3 A n (ts.flatMap wordI) := by
  obtain ⟨A, n, c, rfl⟩ := okWide_slice Try.underlying44 hok
  obtain ⟨fuel, hf⟩ := h
  have hc3 : Try.prog.cellsOf 82 = 3 := by kernel_rfl
  rcases Go.Deep.open_slice Try.underlying44 hf with ⟨hcs, _⟩ | ⟨a, len, cap, m, n', D, Pl, hcs, _, hl, hm, hmm, _, hi⟩
  · simp only [Value.cells, List.cons.injEq, Value.slice.injEq, and_true] at hcs
    obtain ⟨rfl, rfl, rfl⟩ := hcs
    exact ⟨none, 0, 0, [], rfl, Nat.zero_le _, Rd.nil _ _ _ _⟩
  · simp only [Value.cells, List.cons.injEq, Value.slice.injEq, and_true] at hcs
    obtain ⟨rfl, rfl, rfl⟩ := hcs
    rw [hc3] at hi
    have hmn : n ≤ m := by rw [hmm]; simpa using hl
    have step : ∀ k, k ≤ n → ∃ ts : List (ByteArray × Int × Int), ts.length = k ∧ ∀ j u, (ts.flatMap wordI)[j]? = some u → W.cell? (a.add j) = some u := by
      intro k
      induction k with
      | zero => exact fun _ => ⟨[], rfl, fun j u hu => by simp at hu⟩
      | succ k ih =>
        intro hk
        obtain ⟨ts, hlen, hcell⟩ := ih (by omega)
        obtain ⟨cs', hcs', ht⟩ := hi k (by omega)
        obtain ⟨t, rfl⟩ := open_word ht
        obtain ⟨_, _, hat⟩ := World.cells?_some hcs'
        refine ⟨ts ++ [t], by simp [hlen], fun j u hu => ?_⟩
        have hfl : (ts.flatMap wordI).length = k * 3 := by rw [flat3_len wordI (fun _ => rfl), hlen]
        rw [List.flatMap_append] at hu
        rcases Nat.lt_or_ge j (k * 3) with h1 | h1
        · rw [List.getElem?_append_left (by omega)] at hu
          exact hcell j u hu
        · rw [List.getElem?_append_right (by omega), hfl] at hu
          rw [show [t].flatMap wordI = wordI t by simp] at hu
          have hj2 : j - k * 3 < 3 := (List.getElem?_eq_some_iff.1 hu).1
          have := hat (j - k * 3) hj2
          rw [Go.Deep.add_add, show k * 3 + (j - k * 3) = j from by omega] at this
          rw [this]
          exact hu
    obtain ⟨ts, hlen, hcell⟩ := step n (Nat.le_refl _)
    exact ⟨_, n, c, ts, rfl, by omega, rd_of (by rw [flat3_len wordI (fun _ => rfl), hlen]) (by omega) hcell⟩
end
end Go.Proofs.Ytmekdghnkkephaa.Tok
