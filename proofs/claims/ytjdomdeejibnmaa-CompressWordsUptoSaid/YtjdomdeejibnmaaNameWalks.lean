/- Contracts of the program's questions on words. -/
import Derived.Test.YtjdomdeejibnmaaConsWalks
namespace Go.Proofs.Ytjdomdeejibnmaa.Tok
open Go.RowKit Go.Proofs.Ytjdomdeejibnmaa

def lenB (s : ByteArray) : Bool := decide (1 ≤ s.size) && decide (s.size ≤ 60)

theorem nameLength_any (s : ByteArray) (hs : s.size ≤ 9223372036854775807) (w : World) :
    Calls Try.prog 43 #[.string s] w fun e w' => e = .returned (.bool (lenB s)) ∧ w = w' := by
  by_cases h1 : 1 ≤ s.size
  · have hf := Lib.hid (show lenB s = decide (s.size ≤ 60) by simp [lenB, h1])
    go_enter Try.func43, Try.ntmps43
    go_wp2
    all_goals (go_ret; exact ⟨retb (by rw [hf.out]; first | rfl | (rw [Bool.eq_iff_iff]; simp; omega)), rfl⟩)
  · have hf := Lib.hid (show lenB s = false by simp [lenB]; omega)
    go_enter Try.func43, Try.ntmps43
    go_wp2
    all_goals (go_ret; exact ⟨retb (by rw [hf.out]), rfl⟩)

theorem IsLabel_any (s : ByteArray) (hs : s.size ≤ 9223372036854775807) (w : World) :
    Calls Try.prog 38 #[.string s] w fun e w' => e = .returned (.bool (lenB s && allB (onCls qL) s)) ∧ w = w' := by
  cases h : lenB s
  all_goals
    have hf := Lib.hid h
    clear h
    go_enter Try.func38, Try.ntmps38
    go_wp2_with (first | (go_at_call 43; refine (nameLength_any s hs _).mono ?_; rintro e w' ⟨rfl, rfl⟩; rw [hf.out]) | (go_at_call 44; refine (consistsL s hs _).mono ?_; rintro e w' ⟨rfl, rfl⟩))
    go_ret
    exact ⟨rfl, rfl⟩

end Go.Proofs.Ytjdomdeejibnmaa.Tok
