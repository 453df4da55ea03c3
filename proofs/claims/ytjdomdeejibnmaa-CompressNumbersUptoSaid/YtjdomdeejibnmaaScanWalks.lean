/- The contract of the program's Scan. -/
import Derived.Test.YtjdomdeejibnmaaClasses
import Derived.Test.YtjdomdeejibnmaaEqual
import Derived.Test.YtjdomdeejibnmaaScanMath
import Derived.WalkMore
namespace Go.Proofs.Ytjdomdeejibnmaa.Tok
open Go.RowKit Go.Proofs.Ytjdomdeejibnmaa

theorem flat_snoc (s : ByteArray) (C : List (Nat × Nat)) (p : Nat × Nat) : (C.flatMap fun p => tokV (tk s p)) ++ [Value.string (s.extract p.1 p.2), Value.int .i64 (p.1 : Nat)] = (C ++ [p]).flatMap fun p => tokV (tk s p) := by
  rw [List.flatMap_append]
  simp [tokV, tk]

theorem two_new (w : World) (t : TypeId) (a b : Value) {j : Nat} {u : Value} (h : [a, b][j]? = some u) : (w.alloc (.cells #[a, b] t)).cell? ((⟨w.heap.size, 0, none⟩ : Addr).add j) = some u := by
  rw [add_zero_block, cell_of_row _ _ _ _ _ _ (heap_alloc_new w _)]
  simpa using h
theorem one_pair (a : ByteArray) (b : Int) : ∀ u ∈ [Value.string a, Value.int .i64 b], u.oneCell' = true := by
  intro u hu
  rcases List.mem_cons.1 hu with rfl | hu
  · rfl
  · rcases List.mem_cons.1 hu with rfl | hu
    · rfl
    · cases hu
theorem cls255 (b : UInt8) : b.toNat < 256 := by have := b.toNat_lt; omega
end Go.Proofs.Ytjdomdeejibnmaa.Tok
