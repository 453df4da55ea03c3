/- The example that each statement of layer 1 checks. -/
import Derived.Test.YtflfeimmdpjbeaaKind
import Derived.Test.YtflfeimmdpjbeaaRefScan
namespace Go.Proofs.Ytflfeimmdpjbeaa.Tok
open Go.RowKit Go.Proofs.Ytflfeimmdpjbeaa

def exA : ByteArray := ⟨#[119, 112, 32, 36, 102]⟩
def exB : ByteArray := ⟨#[97, 120, 45, 109, 112]⟩
theorem exA_toks : toks exA.data.toList 0 = [(0, 2), (3, 5)] := by decide +kernel
theorem exA_cells : (toks exA.data.toList 0).flatMap (fun p => tokV (tk exA p)) = [.string ⟨#[119, 112]⟩, .int .i64 0, .string ⟨#[36, 102]⟩, .int .i64 3] := by kernel_rfl
theorem exA_fine (i : Nat) : ¬ badAt exA i := by
  rintro ⟨h, h0, _⟩
  have : i < 5 := h
  match i, this with
  | 0, _ => revert h0; decide +kernel +revert
  | 1, _ => revert h0; decide +kernel +revert
  | 2, _ => revert h0; decide +kernel +revert
  | 3, _ => revert h0; decide +kernel +revert
  | 4, _ => revert h0; decide +kernel +revert
theorem exB_kind : kindN exB = 2 := by decide +kernel

theorem awake_any (w : World) : Calls Try.prog 15 #[] w fun e w' => e = .returned (.bool true) ∧ Below w.heap.size w w' := by
  go_enter Try.func15, Try.ntmps15
  go_wp2_with fail
  refine (scan_any exA (by decide) _).mono ?_
  rintro e w1 ⟨hb, hp⟩
  rcases hp with ⟨i, hi, _⟩ | ⟨_, h8, _⟩ | ⟨_, _, v, rfl, hown⟩
  · exact absurd hi (exA_fine i)
  · rw [exA_toks] at h8; exact absurd h8 (by decide)
  · rw [exA_cells, exA_toks] at hown
    obtain ⟨g, cap, cur, rfl, _⟩ : ∃ g cap cur, v = .slice (some ⟨g, 0, none⟩) 2 cap ∧ w1.heap[g]? = some (.cells cur 29 (0, 0)) := by
      rcases hown.2 with ⟨_, h⟩ | ⟨g, cap, cur, h1, h2, h3, _⟩
      · simp at h
      · exact ⟨g, cap, cur, h1, h3⟩
    have c0 : w1.cell? ⟨g, 0, none⟩ = some (.string ⟨#[119, 112]⟩) := by have := hown.cells (g := g) rfl 0 _ rfl; rwa [add_zero_block] at this
    have c2 : w1.cell? ⟨g, 2, none⟩ = some (.string ⟨#[36, 102]⟩) := by have := hown.cells (g := g) rfl 2 _ rfl; rwa [add_zero_block] at this
    have c3 : w1.cell? ⟨g, 3, none⟩ = some (.int .i64 3) := by have := hown.cells (g := g) rfl 3 _ rfl; rwa [add_zero_block] at this
    clear hown
    go_wp2_with (go_at_call 22; refine (kind_any exB (by decide) _).mono ?_; rintro e w2 ⟨rfl, hb2⟩; rw [exB_kind])
    go_ret
    exact ⟨rfl, hb.trans (hb2.mono hb.size)⟩
end Go.Proofs.Ytflfeimmdpjbeaa.Tok
