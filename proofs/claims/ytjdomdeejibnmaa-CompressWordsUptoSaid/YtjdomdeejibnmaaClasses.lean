/- The table of the classes. -/
import Derived.Test.YtjdomdeejibnmaaClassWalks
import Derived.Test.YtjdomdeejibnmaaMem
import Derived.OwnWalk
import Derived.Laws.Tables
import Derived.KernelRfl
namespace Go.Proofs.Ytjdomdeejibnmaa.Tok
open Go.RowKit Go.Proofs.Ytjdomdeejibnmaa

/-- The table, filled as far as k. -/
def tab (k : Nat) : Array Value := ((List.range 256).map fun j => Value.int .u8 ((if j < k then cls j else 0 : Nat) : Int)).toArray
theorem tab_size (k : Nat) : (tab k).size = 256 := by simp [tab]
theorem tab_get (k j : Nat) (h : j < 256) : (tab k)[j]? = some (.int .u8 ((if j < k then cls j else 0 : Nat) : Int)) := by
  simp [tab, h]
theorem tab_none (k j : Nat) (h : ¬ j < 256) : (tab k)[j]? = none := Array.getElem?_eq_none (by rw [tab_size]; omega)
theorem tab_set (k : Nat) (h : k < 256) : (tab k).setIfInBounds k (.int .u8 (cls k : Nat)) = tab (k + 1) := by
  apply Array.ext_getElem?
  intro i
  rw [Array.getElem?_setIfInBounds]
  by_cases hi : i < 256
  · rw [tab_get (k + 1) i hi, tab_get k i hi, tab_size]
    by_cases e : k = i
    · subst e; simp [h]
    · rw [if_neg e]
      by_cases hlt : i < k
      · rw [if_pos hlt, if_pos (by omega)]
      · rw [if_neg hlt, if_neg (by omega)]
  · rw [tab_none (k + 1) i hi, tab_none k i hi, if_neg (by omega)]
theorem tab_one (k : Nat) : (tab k).all (·.oneCell') = true := by
  rw [Array.all_eq_true_iff_forall_mem]
  intro v hv
  unfold tab at hv
  simp only [List.mem_toArray, List.mem_map] at hv
  obtain ⟨j, _, rfl⟩ := hv
  rfl

end Go.Proofs.Ytjdomdeejibnmaa.Tok
