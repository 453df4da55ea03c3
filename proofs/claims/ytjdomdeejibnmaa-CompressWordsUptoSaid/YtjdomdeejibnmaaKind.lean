/- Contracts of both Kinds, and of the example that each statement checks. -/
import Derived.Test.YtjdomdeejibnmaaRefNames
import Derived.Test.YtjdomdeejibnmaaKeyWalks
namespace Go.Proofs.Ytjdomdeejibnmaa.Tok
open Go.RowKit Go.Proofs.Ytjdomdeejibnmaa

def labB (s : ByteArray) : Bool := lenB s && allB (onCls qL) s
def symB (s : ByteArray) : Bool := lenB s && allB (onCls qS) s
def kindN (s : ByteArray) : Nat := if isKw s then 1 else if labB s then 2 else if symB s then 3 else 0

theorem neB_of (s : ByteArray) : neB s = decide (1 ≤ s.size) := by
  unfold neB
  rw [ByteArray.toList_eq, Bool.eq_iff_iff]
  simp only [Bool.not_eq_true', decide_eq_true_iff]
  rw [← Bool.not_eq_true, List.isEmpty_iff]
  have : s.size = s.data.toList.length := by simp
  rw [this]
  cases s.data.toList <;> simp
theorem labR (s : ByteArray) : (allB letB s && (neB s && decide (s.size ≤ 60))) = labB s := by
  unfold labB lenB
  rw [neB_of, ← allB_congr onL, Bool.and_comm]
theorem symR (s : ByteArray) : (allB ndB s && ((allB prB s && neB s) && decide (s.size ≤ 60))) = symB s := by
  unfold symB lenB
  rw [neB_of, allB_congr onS, ← allB_and]
  cases allB ndB s <;> cases allB prB s <;> cases decide (1 ≤ s.size) <;> cases decide (s.size ≤ 60) <;> rfl

end Go.Proofs.Ytjdomdeejibnmaa.Tok
