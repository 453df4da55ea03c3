/- An argument that is a slice of ints, opened to what it reads as; the law of runs on a number of the row. -/
import Derived.Test.YtdffgkhlkbaecaaOpenOps
import Derived.Test.YtdffgkhlkbaecaaILawRuns
namespace Go.Proofs.Ytdffgkhlkbaecaa.Tok
open Go.ChangeShapes Go.WideShapes Go.ChangeAt Go.RowKit Go.Proofs.Ytdffgkhlkbaecaa

theorem flat_ints : ∀ l : List Int, l.flatMap (fun z => [Value.int .i64 z]) = l.map (Value.int .i64)
  | [] => rfl
  | z :: l => by rw [List.flatMap_cons, flat_ints l]; rfl
section
variable {H : Type} {enc : TypeId × Value → H} {W : World}
set_option maxRecDepth 100000 in
theorem open_intl {r : Reach} {b0 : Nat} {v : Value} {d : DataW H} {p : List MemPlace} (hok : Value.okWide Try.prog W r b0 36 v) (h : DataW.Trod enc Try.prog W 0 (fun _ => true) true 36 v d p) :
    ∃ (A : Option Addr) (n c : Nat) (ts : List Int), v = .slice A n c ∧ n ≤ maxLen ∧ (∀ t ∈ ts, (Lit.int .i64 t).wf = true) ∧ Rd W W.heap.size 1 A n (ts.map (Value.int .i64)) := by
  obtain ⟨A, n, c, ts, h1, h2, h3, h4⟩ := open_rows 1 (by decide) (fun z : Int => [Value.int .i64 z]) (fun _ => rfl) (fun z => (Lit.int .i64 z).wf = true) 36 3 Try.underlying36 (by kernel_rfl) (fun hx => by
    obtain ⟨z, e, _, w⟩ := DataW.trod_int Try.underlying3 hx
    exact ⟨z, w, e⟩) hok h
  exact ⟨A, n, c, ts, h1, h2, h3, by rw [← flat_ints]; exact h4⟩
end
theorem law_runs_z (A : Option Addr) (m hc : Nat) (ls : List Int) (z : Int) (w : World) (hz : (Lit.int .u8 z).wf = true) (hwf : ∀ x ∈ ls, (Lit.int .i64 x).wf = true) (hh : Rd w w.heap.size 1 A m (ls.map (Value.int .i64))) :
    Calls Try.prog 4 #[.slice A m hc, .int .u8 z] w fun e w' => e = .returned (.bool true) ∧ Below w.heap.size w w' := by
  obtain ⟨most, rfl, hmo⟩ := u8_of hz
  exact law_runs A m hc ls most w hmo hwf hh
end Go.Proofs.Ytdffgkhlkbaecaa.Tok
