/- Contracts of both Kinds, and of the example that each statement checks. -/
import Derived.Test.YtflfeimmdpjbeaaRefNames
import Derived.Test.YtflfeimmdpjbeaaKeyWalks
namespace Go.Proofs.Ytflfeimmdpjbeaa.Tok
open Go.RowKit Go.Proofs.Ytflfeimmdpjbeaa

def labB (s : ByteArray) : Bool := lenB s && allB (onCls qL) s
def symB (s : ByteArray) : Bool := lenB s && allB (onCls qS) s
def kindN (s : ByteArray) : Nat := if isKw s then 1 else if labB s then 2 else if symB s then 3 else 0

theorem neB_of (s : ByteArray) : neB s = decide (1 ≤ s.size) := by
  unfold neB
  rw [ByteArray.toList_eq, Bool.eq_iff_iff]
  simp only [Bool.not_eq_true', decide_eq_true_iff]
  rw [← Bool.not_eq_true, List.isEmpty_iff]
  have : s.size = s.data.toList.length := by simp
  rw [this]
  cases s.data.toList <;> simp
theorem labR (s : ByteArray) : (allB letB s && (neB s && decide (s.size ≤ 60))) = labB s := by
  unfold labB lenB
  rw [neB_of, ← allB_congr onL, Bool.and_comm]
theorem symR (s : ByteArray) : (allB ndB s && ((allB prB s && neB s) && decide (s.size ≤ 60))) = symB s := by
  unfold symB lenB
  rw [neB_of, allB_congr onS, ← allB_and]
  cases allB ndB s <;> cases allB prB s <;> cases decide (1 ≤ s.size) <;> cases decide (s.size ≤ 60) <;> rfl

theorem kind_any (s : ByteArray) (hs : s.size ≤ 281474976710656) (w : World) :
    Calls Try.prog 22 #[.string s] w fun e w' => e = .returned (.int .i64 (kindN s : Nat)) ∧ Below w.heap.size w w' := by
  cases h1 : isKw s <;> cases h2 : labB s <;> cases h3 : symB s
  all_goals
    have hk := Lib.hid (show kindN s = _ from by unfold kindN; rw [h1, h2, h3])
    have H1 := Lib.hid h1
    have H2 := Lib.hid h2
    have H3 := Lib.hid h3
    clear h1 h2 h3
    go_enter Try.func22, Try.ntmps22
    go_wp2_with (first
      | (go_at_call 24; refine (isKeyword_any s hs _).mono ?_; rintro e w' ⟨rfl, hb⟩; rw [H1.out])
      | (go_at_call 26; refine (IsLabel_any s hs _).mono ?_; rintro e w' ⟨rfl, rfl⟩; rw [show (lenB s && allB (onCls qL) s) = _ from H2.out])
      | (go_at_call 28; refine (IsSymbol_any s hs _).mono ?_; rintro e w' ⟨rfl, rfl⟩; rw [show (lenB s && allB (onCls qS) s) = _ from H3.out]))
    go_ret
    exact ⟨by rw [hk.out]; rfl, hb⟩

theorem rkind_any (s : ByteArray) (hs : s.size ≤ 281474976710656) (w : World) :
    Calls Try.prog 23 #[.string s] w fun e w' => e = .returned (.int .i64 (kindN s : Nat)) ∧ Below w.heap.size w w' := by
  cases h1 : isKw s <;> cases h2 : labB s <;> cases h3 : symB s
  all_goals
    have hk := Lib.hid (show kindN s = _ from by unfold kindN; rw [h1, h2, h3])
    have H1 := Lib.hid h1
    have H2 := Lib.hid ((labR s).trans h2)
    have H3 := Lib.hid ((symR s).trans h3)
    clear h1 h2 h3
    go_enter Try.func23, Try.ntmps23
    go_wp2_with (first
      | (go_at_call 25; refine (rIsKeyword_any s hs _).mono ?_; rintro e w' ⟨rfl, hb⟩; rw [H1.out])
      | (go_at_call 27; refine (rIsLabel_any s hs _).mono ?_; rintro e w' ⟨rfl, rfl⟩; rw [H2.out])
      | (go_at_call 29; refine (rIsSymbol_any s hs _).mono ?_; rintro e w' ⟨rfl, rfl⟩; rw [H3.out]))
    go_ret
    exact ⟨by rw [hk.out]; rfl, hb⟩
end Go.Proofs.Ytflfeimmdpjbeaa.Tok
