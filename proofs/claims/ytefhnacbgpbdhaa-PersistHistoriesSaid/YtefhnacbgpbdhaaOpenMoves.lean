/- Arguments that are slices of moves, opened. -/
import Derived.Test.YtefhnacbgpbdhaaHistRel
import Derived.Test.YtefhnacbgpbdhaaOpenOps
namespace Go.Proofs.Ytefhnacbgpbdhaa.Tok
open Go.ChangeShapes Go.WideShapes Go.ChangeAt Go.RowKit Go.Proofs.Ytefhnacbgpbdhaa
theorem three_of {l : List Value} (h : l.length = 3) : ∃ a b c, l = [a, b, c] := by
  match l, h with
  | [a, b, c], _ => exact ⟨a, b, c, rfl⟩
theorem u16_of {z : Int} (h : (Lit.int .u16 z).wf = true) : ∃ k : Nat, z = (k : Nat) ∧ k ≤ 65535 := by
  have : 0 ≤ z ∧ z ≤ 65535 := by simpa [Lit.wf, IntKind.min, IntKind.max, IntKind.signed, IntKind.bits] using h
  exact ⟨z.toNat, by omega, by omega⟩
section
variable {H : Type} {enc : TypeId × Value → H} {W : World}
set_option maxRecDepth 100000 in
theorem mv_fields : ∃ f0 f1 f2 : Field, Try.prog.underlying 62 = some (.struct #[f0, f1, f2]) ∧ f0.type = 5 ∧ f1.type = 60 ∧ f2.type = 3 ∧ Go.Deep.oneCellFields Try.prog #[f0, f1, f2] = true :=
  ⟨_, _, _, Try.underlying62, rfl, rfl, rfl, by kernel_rfl⟩
set_option maxRecDepth 100000 in
theorem open_mv {fuel : Nat} {cs : List Value} {x : DataW H × List MemPlace} (h : DataW.trod enc Try.prog W 0 (fun _ => true) true fuel 62 cs = some x) : ∃ t : MvT, MvOk t ∧ cs = mvV t := by
  obtain ⟨f0, f1, f2, hu, h0, h1, h2, hone⟩ := mv_fields
  obtain ⟨xs, n, _, _, hl, hx, hf⟩ := DataW.trod_struct hu h
  have hc2 : Try.prog.cellsOf 62 = 3 := by kernel_rfl
  obtain ⟨a, b, c, rfl⟩ := three_of (hl.trans hc2)
  obtain ⟨o0, k0⟩ := Go.Deep.hone_of hone 0 f0 rfl
  obtain ⟨o1, k1⟩ := Go.Deep.hone_of hone 1 f1 rfl
  obtain ⟨o2, k2⟩ := Go.Deep.hone_of hone 2 f2 rfl
  have g0 := hf 0 f0 rfl
  have g1 := hf 1 f1 rfl
  have g2 := hf 2 f2 rfl
  have hx2 : xs.length = 3 := hx
  rw [o0, k0, h0, List.getElem?_eq_getElem (by omega)] at g0
  rw [o1, k1, h1, List.getElem?_eq_getElem (by omega)] at g1
  rw [o2, k2, h2, List.getElem?_eq_getElem (by omega)] at g2
  obtain ⟨z0, e0, _, w0⟩ := DataW.trod_int Try.underlying5 g0
  obtain ⟨z1, e1, _, w1⟩ := DataW.trod_int Try.underlying60 g1
  obtain ⟨z2, e2, _⟩ := DataW.trod_int Try.underlying3 g2
  obtain ⟨i0, rfl, l0⟩ := u8_of w0
  obtain ⟨i1, rfl, l1⟩ := u16_of w1
  simp at e0 e1 e2
  subst e0 e1 e2
  exact ⟨⟨i0, i1, z2⟩, ⟨l0, l1⟩, rfl⟩
set_option maxRecDepth 100000 in
theorem open_mvs {r : Reach} {b0 : Nat} {v : Value} {d : DataW H} {p : List MemPlace} (hok : Value.okWide Try.prog W r b0 59 v) (h : DataW.Trod enc Try.prog W 0 (fun _ => true) true 59 v d p) :
    ∃ (A : Option Addr) (n c : Nat) (ts : List MvT), v = .slice A n c ∧ n ≤ maxLen ∧ (∀ t ∈ ts, MvOk t) ∧ Rd W W.heap.size 3 A n (ts.flatMap mvV) :=
  open_rows 3 (by omega) mvV (fun _ => rfl) MvOk 59 62 Try.underlying59 (by kernel_rfl) open_mv hok h
end
end Go.Proofs.Ytefhnacbgpbdhaa.Tok
