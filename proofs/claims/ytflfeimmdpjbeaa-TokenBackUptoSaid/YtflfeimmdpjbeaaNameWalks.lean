/- Contracts of the program's questions on words. -/
import Derived.Test.YtflfeimmdpjbeaaConsWalks
namespace Go.Proofs.Ytflfeimmdpjbeaa.Tok
open Go.RowKit Go.Proofs.Ytflfeimmdpjbeaa

def lenB (s : ByteArray) : Bool := decide (1 ≤ s.size) && decide (s.size ≤ 60)

theorem nameLength_any (s : ByteArray) (hs : s.size ≤ 281474976710656) (w : World) :
    Calls Try.prog 67 #[.string s] w fun e w' => e = .returned (.bool (lenB s)) ∧ w = w' := by
  by_cases h1 : 1 ≤ s.size
  · have hf := Lib.hid (show lenB s = decide (s.size ≤ 60) by simp [lenB, h1])
    go_enter Try.func67, Try.ntmps67
    go_wp2
    all_goals (go_ret; exact ⟨retb (by rw [hf.out]; first | rfl | (rw [Bool.eq_iff_iff]; simp; omega)), rfl⟩)
  · have hf := Lib.hid (show lenB s = false by simp [lenB]; omega)
    go_enter Try.func67, Try.ntmps67
    go_wp2
    all_goals (go_ret; exact ⟨retb (by rw [hf.out]), rfl⟩)

theorem IsLabel_any (s : ByteArray) (hs : s.size ≤ 281474976710656) (w : World) :
    Calls Try.prog 26 #[.string s] w fun e w' => e = .returned (.bool (lenB s && allB (onCls qL) s)) ∧ w = w' := by
  cases h : lenB s
  all_goals
    have hf := Lib.hid h
    clear h
    go_enter Try.func26, Try.ntmps26
    go_wp2_with (first | (go_at_call 67; refine (nameLength_any s hs _).mono ?_; rintro e w' ⟨rfl, rfl⟩; rw [hf.out]) | (go_at_call 68; refine (consistsL s hs _).mono ?_; rintro e w' ⟨rfl, rfl⟩))
    go_ret
    exact ⟨rfl, rfl⟩

theorem IsSymbol_any (s : ByteArray) (hs : s.size ≤ 281474976710656) (w : World) :
    Calls Try.prog 28 #[.string s] w fun e w' => e = .returned (.bool (lenB s && allB (onCls qS) s)) ∧ w = w' := by
  cases h : lenB s
  all_goals
    have hf := Lib.hid h
    clear h
    go_enter Try.func28, Try.ntmps28
    go_wp2_with (first | (go_at_call 67; refine (nameLength_any s hs _).mono ?_; rintro e w' ⟨rfl, rfl⟩; rw [hf.out]) | (go_at_call 68; refine (consistsS s hs _).mono ?_; rintro e w' ⟨rfl, rfl⟩))
    go_ret
    exact ⟨rfl, rfl⟩

theorem IsSpace_any (s : ByteArray) (hs : s.size ≤ 281474976710656) (w : World) :
    Calls Try.prog 30 #[.string s] w fun e w' => e = .returned (.bool (allB (onCls qG) s)) ∧ w = w' := by
  go_enter Try.func30, Try.ntmps30
  go_wp2_with (go_at_call 68; refine (consistsG s hs _).mono ?_; rintro e w' ⟨rfl, rfl⟩)
  go_ret
  exact ⟨rfl, rfl⟩

theorem isWord_any (s : ByteArray) (hs : s.size ≤ 281474976710656) (w : World) :
    Calls Try.prog 77 #[.string s] w fun e w' => e = .returned (.bool (neB s && allB (onCls qW) s)) ∧ w = w' := by
  go_enter Try.func77, Try.ntmps77
  go_wp2_with (go_at_call 68; refine (consistsW s hs _).mono ?_; rintro e w' ⟨rfl, rfl⟩)
  · have hf : neB s = false := by unfold neB; simp [*]
    go_ret
    exact ⟨retb (by rw [hf]; rfl), rfl⟩
  · go_ret
    exact ⟨rfl, rfl⟩
end Go.Proofs.Ytflfeimmdpjbeaa.Tok
