/- Arguments that are slices of pairs of bytes, opened. -/
import Derived.Test.YtimgnmlcgnibhaaOpenOps
namespace Go.Proofs.Ytimgnmlcgnibhaa.Tok
open Go.ChangeShapes Go.WideShapes Go.ChangeAt Go.RowKit Go.Proofs.Ytimgnmlcgnibhaa
abbrev PrT := Nat × Nat
def prV (x : PrT) : List Value := [.int .u8 x.1, .int .u8 x.2]
def PrOk (x : PrT) : Prop := x.1 ≤ 255 ∧ x.2 ≤ 255
theorem two_of {l : List Value} (h : l.length = 2) : ∃ a b, l = [a, b] := by
  match l, h with
  | [a, b], _ => exact ⟨a, b, rfl⟩
section
variable {H : Type} {enc : TypeId × Value → H} {W : World}
set_option maxRecDepth 100000 in
theorem open_pr {fuel : Nat} {cs : List Value} {x : DataW H × List MemPlace} (h : DataW.trod enc Try.prog W 0 (fun _ => true) true fuel 102 cs = some x) : ∃ t : PrT, PrOk t ∧ cs = prV t := by
  obtain ⟨xs, n, _, _, hx, hl, hf⟩ := DataW.trod_array Try.underlying102 h
  have hc2 : Try.prog.cellsOf 102 = 2 := by kernel_rfl
  have hc1 : Try.prog.cellsOf 5 = 1 := by kernel_rfl
  rw [hc2] at hx
  obtain ⟨a, b, rfl⟩ := two_of (by first | exact hx | exact hl)
  have g0 := hf 0 (by omega)
  have g1 := hf 1 (by omega)
  rw [hc1] at g0 g1
  rw [List.getElem?_eq_getElem (by omega)] at g0 g1
  obtain ⟨z0, e0, _, w0⟩ := DataW.trod_int Try.underlying5 g0
  obtain ⟨z1, e1, _, w1⟩ := DataW.trod_int Try.underlying5 g1
  obtain ⟨i0, rfl, l0⟩ := u8_of w0
  obtain ⟨i1, rfl, l1⟩ := u8_of w1
  simp at e0 e1
  subst e0 e1
  exact ⟨⟨i0, i1⟩, ⟨l0, l1⟩, rfl⟩
set_option maxRecDepth 100000 in
theorem open_prs {r : Reach} {b0 : Nat} {v : Value} {d : DataW H} {p : List MemPlace} (hok : Value.okWide Try.prog W r b0 101 v) (h : DataW.Trod enc Try.prog W 0 (fun _ => true) true 101 v d p) :
    ∃ (A : Option Addr) (n c : Nat) (ts : List PrT), v = .slice A n c ∧ n ≤ maxLen ∧ (∀ t ∈ ts, PrOk t) ∧ Rd W W.heap.size 2 A n (ts.flatMap prV) :=
  open_rows 2 (by omega) prV (fun _ => rfl) PrOk 101 102 Try.underlying101 (by kernel_rfl) open_pr hok h
end
end Go.Proofs.Ytimgnmlcgnibhaa.Tok
