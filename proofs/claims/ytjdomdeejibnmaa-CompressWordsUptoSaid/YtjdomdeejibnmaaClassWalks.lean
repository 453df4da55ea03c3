/- Contracts of classOf, Space, Printable, consists and what asks them. -/
import Derived.Test.YtjdomdeejibnmaaRows
import Derived.Test.YtjdomdeejibnmaaTokMath
import Derived.WalkKit
import Derived.ProofKit
import Derived.BigQuiet
import Derived.Deep.QuietTactic
import Derived.Lib.Hide
import Derived.WalkSpells
import Derived.WalkLawsBesides
import Derived.Outline
import Derived.Deep.Light
namespace Go.Proofs.Ytjdomdeejibnmaa.Tok
open Go.RowKit Go.Proofs.Ytjdomdeejibnmaa

theorem ret_u8 {a b : Nat} (h : a = b) : Ending.returned (.int .u8 (a : Int)) = .returned (.int .u8 (b : Int)) := by rw [h]
theorem retb {a b : Bool} (h : a = b) : Ending.returned (.bool a) = .returned (.bool b) := by rw [h]

theorem cls_of {b : Nat} {n : Nat} (h : (if b = 32 ∨ b = 9 ∨ b = 13 ∨ b = 10 ∨ b = 12 then 1
  else if b = 36 then 4
  else if b = 45 ∨ b = 95 ∨ b = 46 then 2
  else if (48 ≤ b ∧ b ≤ 57) ∨ (65 ≤ b ∧ b ≤ 90) ∨ (97 ≤ b ∧ b ≤ 122) then 2
  else if 32 < b ∧ b ≤ 126 then 3
  else 0) = n) : Ending.returned (.int .u8 ((n : Nat) : Int)) = .returned (.int .u8 (cls b : Nat)) := by rw [← h]; rfl

set_option maxHeartbeats 800000 in
theorem classOf_any (b : Nat) (hb : b ≤ 255) (w : World) :
    Calls Try.prog 46 #[.int .u8 (b : Int)] w fun e w' => e = .returned (.int .u8 (cls b : Nat)) ∧ w = w' := by
  go_enter Try.func46, Try.ntmps46
  go_wp2
  all_goals (go_ret; refine ⟨cls_of ?_, rfl⟩; go_light; simp only [beq_iff_eq, beq_eq_false_iff_ne, ne_eq] at *)
  all_goals (repeat' split)
  all_goals first | rfl | (exfalso; omega)

theorem litL (c : Nat) (w : World) : Calls Try.prog 45 #[.int .u8 (c : Int)] w fun e w' => e = .returned (.bool (qL c)) ∧ w = w' := by
  go_enter Try.func45, Try.ntmps45
  go_wp2
  all_goals (go_ret; exact ⟨rfl, rfl⟩)
end Go.Proofs.Ytjdomdeejibnmaa.Tok
