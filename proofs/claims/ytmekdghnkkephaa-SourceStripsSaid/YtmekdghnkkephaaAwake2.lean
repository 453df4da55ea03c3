/- The example that each statement of layer 2 checks. -/
import Derived.Test.YtmekdghnkkephaaStrip
namespace Go.Proofs.Ytmekdghnkkephaa.Tok
open Go.RowKit Go.Proofs.Ytmekdghnkkephaa

def exC : ByteArray := ⟨#[97, 32, 36, 40, 32, 98, 32, 36, 41, 32, 99]⟩
theorem exC_toks : toks exC.data.toList 0 = [(0, 1), (2, 4), (5, 6), (7, 9), (10, 11)] := by decide +kernel
theorem exC_strip : stripF exC [(0, 1), (2, 4), (5, 6), (7, 9), (10, 11)] 0 false [] [] = ⟨[(0, 1), (10, 11)], [(2, 7, 1)], 0, 0⟩ := by kernel_rfl
theorem exC_cells : cellsOf exC [(0, 1), (10, 11)] = [.string ⟨#[97]⟩, .int .i64 0, .string ⟨#[99]⟩, .int .i64 10] := by kernel_rfl
theorem exC_coms : comCells exC [(2, 7, 1)] = [.string ⟨#[32, 98, 32]⟩, .int .i64 0, .int .i64 2, .int .i64 1] := by kernel_rfl
theorem exC_fine (i : Nat) : ¬ badAt exC i := by
  rintro ⟨h, h0, _⟩
  have : i < 11 := h
  match i, this with
  | 0, _ => revert h0; decide +kernel +revert
  | 1, _ => revert h0; decide +kernel +revert
  | 2, _ => revert h0; decide +kernel +revert
  | 3, _ => revert h0; decide +kernel +revert
  | 4, _ => revert h0; decide +kernel +revert
  | 5, _ => revert h0; decide +kernel +revert
  | 6, _ => revert h0; decide +kernel +revert
  | 7, _ => revert h0; decide +kernel +revert
  | 8, _ => revert h0; decide +kernel +revert
  | 9, _ => revert h0; decide +kernel +revert
  | 10, _ => revert h0; decide +kernel +revert
theorem exC_is {ts : List (Nat × Nat)} {a er : Nat} (h : ScanIs exC ts a er) : er = 0 ∧ ts = [(0, 1), (2, 4), (5, 6), (7, 9), (10, 11)] := by
  rcases h with ⟨h, _⟩ | ⟨_, h, _⟩ | ⟨_, _, h, _⟩ | ⟨_, _, _, rfl, _, rfl⟩
  · exact absurd h (by decide)
  · exact absurd h (exC_fine a)
  · rw [exC_toks] at h
    exact absurd h (by decide)
  · exact ⟨rfl, exC_toks⟩

theorem awake2_any (w : World) (hm : HasMax w) : Calls Try.prog 9 #[] w fun e w' => e = .returned (.bool true) ∧ Below w.heap.size w w' := by
  go_enter Try.func9, Try.ntmps9
  go_wp2_with fail
  refine (strip_any exC _ hm).mono ?_
  rintro e w1 ⟨A, A', c, c', ws, cs, a, er, rfl, ⟨ts, a0, er0, hi, hr⟩, own, com, hb⟩
  obtain ⟨rfl, rfl⟩ := exC_is hi
  rw [if_pos rfl, exC_strip] at hr
  injection hr with h1 h2 h3 h4
  subst h1 h2 h3 h4
  rw [exC_cells] at own
  rw [exC_coms] at com
  obtain ⟨g, rfl, _, _⟩ := own_at own (by decide)
  obtain ⟨g', rfl, _, _⟩ := own_at com (by decide)
  have c2 : w1.cell? ⟨g, 2, none⟩ = some (.string ⟨#[99]⟩) := own.cellAt 2 (by decide)
  have c3 : w1.cell? ⟨g, 3, none⟩ = some (.int .i64 10) := own.cellAt 3 (by decide)
  have d0 : w1.cell? ⟨g', 0, none⟩ = some (.string ⟨#[32, 98, 32]⟩) := com.cellAt 0 (by decide)
  have d2 : w1.cell? ⟨g', 2, none⟩ = some (.int .i64 2) := com.cellAt 2 (by decide)
  have d3 : w1.cell? ⟨g', 3, none⟩ = some (.int .i64 1) := com.cellAt 3 (by decide)
  clear own com hi
  go_wp2
  go_ret
  exact ⟨rfl, hb⟩
end Go.Proofs.Ytmekdghnkkephaa.Tok
