/- Contract of consists, at each of its four predicates. -/
import Derived.Test.YtjdomdeejibnmaaClassWalks
namespace Go.Proofs.Ytjdomdeejibnmaa.Tok
open Go.RowKit Go.Proofs.Ytjdomdeejibnmaa

theorem consistsL (s : ByteArray) (hs : s.size ≤ 9223372036854775807) (w : World) :
    Calls Try.prog 44 #[.string s, .func (.func 45) #[] #[]] w fun e w' => e = .returned (.bool (allB (onCls qL) s)) ∧ w = w' := by
  go_enter Try.func44, Try.ntmps44
  go_wp2
  go_loopw [8] (fun i wr => ∃ k : Nat, k ≤ s.size ∧ i = .int .i64 k ∧ Hid (allK (onCls qL) s k = true) ∧ w = wr) (fun i _ => s.size - (intOf i).toNat)
  case atStart => exact ⟨0, Nat.zero_le _, rfl, allK_zero _ _, rfl⟩
  case round =>
    obtain ⟨k, hk, rfl, ha, rfl⟩ := hrel
    by_cases hlt : k < s.size
    · have hb := Lib.hid (show (s[k]).toNat ≤ 255 by have := s[k].toNat_lt; omega)
      have hsu := Lib.hid (allK_succ (onCls qL) s k hlt)
      have hno := Lib.hid (allB_no (onCls qL) s k hlt)
      cases hq : qL (cls s[k].toNat)
      · have hq' := Lib.hid hq
        clear hq
        go_wp2_with (first | (go_at_call 46; refine (classOf_any _ hb.out _).mono ?_; rintro e w' ⟨rfl, rfl⟩) | (go_at_call 45; refine (litL _ _).mono ?_; rintro e w' ⟨rfl, rfl⟩; rw [hq'.out]))
        go_ret
        exact ⟨retb (hno.out hq'.out).symm, rfl⟩
      · have hq' := Lib.hid hq
        clear hq
        go_wp2_with (first | (go_at_call 46; refine (classOf_any _ hb.out _).mono ?_; rintro e w' ⟨rfl, rfl⟩) | (go_at_call 45; refine (litL _ _).mono ?_; rintro e w' ⟨rfl, rfl⟩; rw [hq'.out]))
        go_roundw
        case rel => exact ⟨k + 1, by omega, by go_num, by show _ = _; rw [hsu.out, ha.out]; exact hq'.out, trivial⟩
        case measure => simp [intOf]; omega
    · have hall := Lib.hid (allK_all (onCls qL) s k (by omega))
      obtain rfl : k = s.size := by omega
      go_wp2
      go_ret
      exact ⟨retb (by rw [← hall.out]; exact ha.out.symm), rfl⟩

end Go.Proofs.Ytjdomdeejibnmaa.Tok
