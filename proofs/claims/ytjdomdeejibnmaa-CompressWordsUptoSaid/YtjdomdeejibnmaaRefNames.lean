/- Contracts of the reference's questions on words. -/
import Derived.Test.YtjdomdeejibnmaaNameWalks
namespace Go.Proofs.Ytjdomdeejibnmaa.Tok
open Go.RowKit Go.Proofs.Ytjdomdeejibnmaa

theorem let_cases (y : Nat) (h : (97 ≤ y ∧ y ≤ 122) ∨ (65 ≤ y ∧ y ≤ 90) ∨ (48 ≤ y ∧ y ≤ 57) ∨ y = 45 ∨ y = 95 ∨ y = 46) :
    (97 ≤ (y : Int) ∧ (y : Int) ≤ 122) ∨ (65 ≤ (y : Int) ∧ (y : Int) ≤ 90) ∨ (48 ≤ (y : Int) ∧ (y : Int) ≤ 57) ∨ (45 ≤ (y : Int) ∧ (y : Int) ≤ 45) ∨ (95 ≤ (y : Int) ∧ (y : Int) ≤ 95) ∨ (46 ≤ (y : Int) ∧ (y : Int) ≤ 46) := by omega
theorem nolet_cases (y : Nat) (h : ¬ ((97 ≤ y ∧ y ≤ 122) ∨ (65 ≤ y ∧ y ≤ 90) ∨ (48 ≤ y ∧ y ≤ 57) ∨ y = 45 ∨ y = 95 ∨ y = 46)) :
    ((0 : Int) ≤ (y : Int) ∧ (y : Int) ≤ 44) ∨ (47 ≤ (y : Int) ∧ (y : Int) ≤ 47) ∨ (58 ≤ (y : Int) ∧ (y : Int) ≤ 64) ∨ (91 ≤ (y : Int) ∧ (y : Int) ≤ 94) ∨ (96 ≤ (y : Int) ∧ (y : Int) ≤ 96) ∨ (123 ≤ (y : Int) ∧ (y : Int) ≤ (y : Int)) := by omega

set_option maxHeartbeats 4000000 in
theorem rIsLabel_any (s : ByteArray) (hs : s.size ≤ 9223372036854775807) (w : World) :
    Calls Try.prog 36 #[.string s] w fun e w' => e = .returned (.bool (allB letB s && (neB s && decide (s.size ≤ 60)))) ∧ w = w' := by
  go_enter Try.func36, Try.ntmps36
  go_wp2
  go_loopw [3] (fun i wr => ∃ k : Nat, k ≤ s.size ∧ i = .int .i64 k ∧ Hid (allK letB s k = true) ∧ w = wr) (fun i _ => s.size - (intOf i).toNat)
  case atStart => exact ⟨0, Nat.zero_le _, rfl, allK_zero _ _, rfl⟩
  case round =>
    obtain ⟨k, hk, rfl, ha, rfl⟩ := hrel
    by_cases hlt : k < s.size
    · have hsu := Lib.hid (allK_succ letB s k hlt)
      have hno := Lib.hid (allB_no letB s k hlt)
      cases hq : letB s[k]
      · have hq' := Lib.hid hq
        unfold letB at hq
        rw [decide_eq_false_iff_not] at hq
        rcases nolet_cases _ hq with h | h | h | h | h | h <;> clear hq
        all_goals
          obtain ⟨h1, h2⟩ := h
          first | (have d45 : (((s[k].toNat : Nat) : Int) != 45) = true := by rw [bne_iff_ne]; omega) | (have d45 : (((s[k].toNat : Nat) : Int) != 45) = false := by rw [bne_eq_false_iff_eq]; omega)
          first | (have d95 : (((s[k].toNat : Nat) : Int) != 95) = true := by rw [bne_iff_ne]; omega) | (have d95 : (((s[k].toNat : Nat) : Int) != 95) = false := by rw [bne_eq_false_iff_eq]; omega)
          first | (have d46 : (((s[k].toNat : Nat) : Int) != 46) = true := by rw [bne_iff_ne]; omega) | (have d46 : (((s[k].toNat : Nat) : Int) != 46) = false := by rw [bne_eq_false_iff_eq]; omega)
          go_wp2
          all_goals first
            | (go_ret; exact ⟨retb (by rw [hno.out hq'.out]; rfl), rfl⟩)
            | (exfalso; clear hsu hno hq' ha d45 d46 d95; go_light; simp only [Bool.not_eq_false', decide_eq_true_eq] at *; omega)
      · have hq' := Lib.hid hq
        unfold letB at hq
        rw [decide_eq_true_iff] at hq
        rcases let_cases _ hq with h | h | h | h | h | h <;> clear hq
        all_goals
          obtain ⟨h1, h2⟩ := h
          first | (have d45 : (((s[k].toNat : Nat) : Int) != 45) = true := by rw [bne_iff_ne]; omega) | (have d45 : (((s[k].toNat : Nat) : Int) != 45) = false := by rw [bne_eq_false_iff_eq]; omega)
          first | (have d95 : (((s[k].toNat : Nat) : Int) != 95) = true := by rw [bne_iff_ne]; omega) | (have d95 : (((s[k].toNat : Nat) : Int) != 95) = false := by rw [bne_eq_false_iff_eq]; omega)
          first | (have d46 : (((s[k].toNat : Nat) : Int) != 46) = true := by rw [bne_iff_ne]; omega) | (have d46 : (((s[k].toNat : Nat) : Int) != 46) = false := by rw [bne_eq_false_iff_eq]; omega)
          go_wp2
          go_light
          exact ⟨⟨k + 1, by omega, by go_num, by show _ = _; rw [hsu.out, ha.out]; exact hq'.out, trivial⟩, by simp [intOf]; omega⟩
    · have hall := Lib.hid (allK_all letB s k (by omega))
      obtain rfl : k = s.size := by omega
      have hA := Lib.hid (hall.out.symm.trans ha.out)
      go_wp2
      · have hf : neB s = false := by unfold neB; simp [*]
        go_ret
        exact ⟨retb (by rw [hA.out, hf]; rfl), rfl⟩
      · go_ret
        exact ⟨retb (by rw [hA.out]; unfold neB; first | rfl | (rw [Bool.eq_iff_iff]; simp; try omega)), rfl⟩
end Go.Proofs.Ytjdomdeejibnmaa.Tok
