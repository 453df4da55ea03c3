/- Arguments that are slices of calls on sets, opened. -/
import Derived.Test.YtimgnmlcgnibhaaOpenPairs
namespace Go.Proofs.Ytimgnmlcgnibhaa.Tok
open Go.ChangeShapes Go.WideShapes Go.ChangeAt Go.RowKit Go.Proofs.Ytimgnmlcgnibhaa
structure SoT where
  kind : Nat
  a : Int
  b : Int
def soV (x : SoT) : List Value := [.int .u8 x.kind, .int .i64 x.a, .int .i64 x.b]
def SoOk (x : SoT) : Prop := x.kind ≤ 255 ∧ (-9223372036854775808 ≤ x.a ∧ x.a ≤ 9223372036854775807) ∧ (-9223372036854775808 ≤ x.b ∧ x.b ≤ 9223372036854775807)
theorem three_ofS {l : List Value} (h : l.length = 3) : ∃ a b c, l = [a, b, c] := by
  match l, h with
  | [a, b, c], _ => exact ⟨a, b, c, rfl⟩
theorem i64_ofS {z : Int} (h : (Lit.int .i64 z).wf = true) : -9223372036854775808 ≤ z ∧ z ≤ 9223372036854775807 := by
  simpa [Lit.wf, IntKind.min, IntKind.max, IntKind.signed, IntKind.bits] using h
section
variable {H : Type} {enc : TypeId × Value → H} {W : World}
set_option maxRecDepth 100000 in
theorem so_fields : ∃ f0 f1 f2 : Field, Try.prog.underlying 93 = some (.struct #[f0, f1, f2]) ∧ f0.type = 5 ∧ f1.type = 3 ∧ f2.type = 3 ∧ Go.Deep.oneCellFields Try.prog #[f0, f1, f2] = true :=
  ⟨_, _, _, Try.underlying93, rfl, rfl, rfl, by kernel_rfl⟩
set_option maxRecDepth 100000 in
theorem open_so {fuel : Nat} {cs : List Value} {x : DataW H × List MemPlace} (h : DataW.trod enc Try.prog W 0 (fun _ => true) true fuel 93 cs = some x) : ∃ t : SoT, SoOk t ∧ cs = soV t := by
  obtain ⟨f0, f1, f2, hu, h0, h1, h2, hone⟩ := so_fields
  obtain ⟨xs, n, _, _, hl, hx, hf⟩ := DataW.trod_struct hu h
  have hc2 : Try.prog.cellsOf 93 = 3 := by kernel_rfl
  obtain ⟨a, b, c, rfl⟩ := three_ofS (hl.trans hc2)
  obtain ⟨o0, k0⟩ := Go.Deep.hone_of hone 0 f0 rfl
  obtain ⟨o1, k1⟩ := Go.Deep.hone_of hone 1 f1 rfl
  obtain ⟨o2, k2⟩ := Go.Deep.hone_of hone 2 f2 rfl
  have g0 := hf 0 f0 rfl
  have g1 := hf 1 f1 rfl
  have g2 := hf 2 f2 rfl
  have hx2 : xs.length = 3 := hx
  rw [o0, k0, h0, List.getElem?_eq_getElem (by omega)] at g0
  rw [o1, k1, h1, List.getElem?_eq_getElem (by omega)] at g1
  rw [o2, k2, h2, List.getElem?_eq_getElem (by omega)] at g2
  obtain ⟨z0, e0, _, w0⟩ := DataW.trod_int Try.underlying5 g0
  obtain ⟨z1, e1, _, w1⟩ := DataW.trod_int Try.underlying3 g1
  obtain ⟨z2, e2, _, w2⟩ := DataW.trod_int Try.underlying3 g2
  obtain ⟨i0, rfl, l0⟩ := u8_of w0
  simp at e0 e1 e2
  subst e0 e1 e2
  exact ⟨⟨i0, z1, z2⟩, ⟨l0, i64_ofS w1, i64_ofS w2⟩, rfl⟩
set_option maxRecDepth 100000 in
theorem open_sos {r : Reach} {b0 : Nat} {v : Value} {d : DataW H} {p : List MemPlace} (hok : Value.okWide Try.prog W r b0 78 v) (h : DataW.Trod enc Try.prog W 0 (fun _ => true) true 78 v d p) :
    ∃ (A : Option Addr) (n c : Nat) (ts : List SoT), v = .slice A n c ∧ n ≤ maxLen ∧ (∀ t ∈ ts, SoOk t) ∧ Rd W W.heap.size 3 A n (ts.flatMap soV) :=
  open_rows 3 (by omega) soV (fun _ => rfl) SoOk 78 93 Try.underlying78 (by kernel_rfl) open_so hok h
end
end Go.Proofs.Ytimgnmlcgnibhaa.Tok
