/- The contract of the program's Keywords. -/
import Derived.Test.YtjdomdeejibnmaaKeyWalks
import Derived.Laws.IdiomStrings
namespace Go.Proofs.Ytjdomdeejibnmaa.Tok
open Go.RowKit Go.Proofs.Ytjdomdeejibnmaa

def kwSs : List ByteArray := (List.range 15).map kwS
theorem kwL_eq : kwL = kwSs.map Value.string := by
  unfold kwL kwSs
  rw [List.map_map]
  rfl
def kwT (k : Nat) : List Value := (List.range k).map fun k => Value.string (kwS k)
theorem kwT_succ (k : Nat) : kwT (k + 1) = kwT k ++ [.string (kwS k)] := by
  unfold kwT
  rw [List.range_succ, List.map_append]
  rfl

theorem one_new2 (w : World) (o : Obj) (t : TypeId) (a : Value) {j : Nat} {u : Value} (h : [a][j]? = some u) : ((w.alloc o).alloc (.cells #[a] t)).cell? ((⟨w.heap.size + 1, 0, none⟩ : Addr).add j) = some u := by
  rw [add_zero_block, cell_of_row _ _ _ _ _ _ (heap_alloc2_new w _ _)]
  simpa using h

end Go.Proofs.Ytjdomdeejibnmaa.Tok
