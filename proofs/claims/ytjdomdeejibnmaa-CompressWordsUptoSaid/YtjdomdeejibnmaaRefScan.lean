/- The contract of the reference's Scan. -/
import Derived.Test.YtjdomdeejibnmaaScanWalks
namespace Go.Proofs.Ytjdomdeejibnmaa.Tok
open Go.RowKit Go.Proofs.Ytjdomdeejibnmaa

theorem own_slice {w : World} {base e size n : Nat} {v : Value} {xs : List Value} (h : w.ownsRow base e size v n xs) : ∃ A c, v = .slice A n c := by
  rcases h.2 with ⟨rfl, rfl⟩ | ⟨g, cap, cur, rfl, _⟩
  · exact ⟨_, _, rfl⟩
  · exact ⟨_, _, rfl⟩

theorem space_of {b : UInt8} : spB b = true ↔ cls b.toNat = 1 := by rw [← onG]; unfold onCls qG; rw [beq_iff_eq]; omega
theorem pr_of {b : UInt8} : prB b = true ↔ (cls b.toNat ≠ 1 ∧ cls b.toNat ≠ 0) := by rw [← onW]; unfold onCls qW; rw [Bool.and_eq_true, bne_iff_ne, bne_iff_ne]; omega

theorem full_of {s : ByteArray} {C : List (Nat × Nat)} {p : Nat × Nat} {R : List (Nat × Nat)} (h8 : C.length = 8000) (hf : fine s s.size) (ht : C ++ p :: R = toks s.data.toList 0) :
    fine s s.size ∧ 8000 < (toks s.data.toList 0).length ∧ ∃ q, (toks s.data.toList 0)[8000]? = some q ∧ Ending.returned (.tuple #[.slice none 0 0, .int .i64 (p.1 : Nat), .int .i64 8]) = .returned (.tuple #[.slice none 0 0, .int .i64 (q.1 : Nat), .int .i64 8]) := by
  rw [← ht]
  refine ⟨hf, by simp; omega, p, ?_, rfl⟩
  rw [List.getElem?_append_right (by omega), h8]
  rfl

end Go.Proofs.Ytjdomdeejibnmaa.Tok
