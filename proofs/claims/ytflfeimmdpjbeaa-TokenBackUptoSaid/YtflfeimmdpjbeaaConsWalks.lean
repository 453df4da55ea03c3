/- Contract of consists, at each of its four predicates. -/
import Derived.Test.YtflfeimmdpjbeaaClassWalks
namespace Go.Proofs.Ytflfeimmdpjbeaa.Tok
open Go.RowKit Go.Proofs.Ytflfeimmdpjbeaa

theorem consistsL (s : ByteArray) (hs : s.size ≤ 281474976710656) (w : World) :
    Calls Try.prog 68 #[.string s, .func (.func 69) #[] #[]] w fun e w' => e = .returned (.bool (allB (onCls qL) s)) ∧ w = w' := by
  go_enter Try.func68, Try.ntmps68
  go_wp2
  go_loopw [8] (fun i wr => ∃ k : Nat, k ≤ s.size ∧ i = .int .i64 k ∧ Hid (allK (onCls qL) s k = true) ∧ w = wr) (fun i _ => s.size - (intOf i).toNat)
  case atStart => exact ⟨0, Nat.zero_le _, rfl, allK_zero _ _, rfl⟩
  case round =>
    obtain ⟨k, hk, rfl, ha, rfl⟩ := hrel
    by_cases hlt : k < s.size
    · have hb := Lib.hid (show (s[k]).toNat ≤ 255 by have := s[k].toNat_lt; omega)
      have hsu := Lib.hid (allK_succ (onCls qL) s k hlt)
      have hno := Lib.hid (allB_no (onCls qL) s k hlt)
      cases hq : qL (cls s[k].toNat)
      · have hq' := Lib.hid hq
        clear hq
        go_wp2_with (first | (go_at_call 95; refine (classOf_any _ hb.out _).mono ?_; rintro e w' ⟨rfl, rfl⟩) | (go_at_call 69; refine (litL _ _).mono ?_; rintro e w' ⟨rfl, rfl⟩; rw [hq'.out]))
        go_ret
        exact ⟨retb (hno.out hq'.out).symm, rfl⟩
      · have hq' := Lib.hid hq
        clear hq
        go_wp2_with (first | (go_at_call 95; refine (classOf_any _ hb.out _).mono ?_; rintro e w' ⟨rfl, rfl⟩) | (go_at_call 69; refine (litL _ _).mono ?_; rintro e w' ⟨rfl, rfl⟩; rw [hq'.out]))
        go_roundw
        case rel => exact ⟨k + 1, by omega, by go_num, by show _ = _; rw [hsu.out, ha.out]; exact hq'.out, trivial⟩
        case measure => simp [intOf]; omega
    · have hall := Lib.hid (allK_all (onCls qL) s k (by omega))
      obtain rfl : k = s.size := by omega
      go_wp2
      go_ret
      exact ⟨retb (by rw [← hall.out]; exact ha.out.symm), rfl⟩

theorem consistsS (s : ByteArray) (hs : s.size ≤ 281474976710656) (w : World) :
    Calls Try.prog 68 #[.string s, .func (.func 70) #[] #[]] w fun e w' => e = .returned (.bool (allB (onCls qS) s)) ∧ w = w' := by
  go_enter Try.func68, Try.ntmps68
  go_wp2
  go_loopw [8] (fun i wr => ∃ k : Nat, k ≤ s.size ∧ i = .int .i64 k ∧ Hid (allK (onCls qS) s k = true) ∧ w = wr) (fun i _ => s.size - (intOf i).toNat)
  case atStart => exact ⟨0, Nat.zero_le _, rfl, allK_zero _ _, rfl⟩
  case round =>
    obtain ⟨k, hk, rfl, ha, rfl⟩ := hrel
    by_cases hlt : k < s.size
    · have hb := Lib.hid (show (s[k]).toNat ≤ 255 by have := s[k].toNat_lt; omega)
      have hsu := Lib.hid (allK_succ (onCls qS) s k hlt)
      have hno := Lib.hid (allB_no (onCls qS) s k hlt)
      cases hq : qS (cls s[k].toNat)
      · have hq' := Lib.hid hq
        clear hq
        go_wp2_with (first | (go_at_call 95; refine (classOf_any _ hb.out _).mono ?_; rintro e w' ⟨rfl, rfl⟩) | (go_at_call 70; refine (litS _ _).mono ?_; rintro e w' ⟨rfl, rfl⟩; rw [hq'.out]))
        go_ret
        exact ⟨retb (hno.out hq'.out).symm, rfl⟩
      · have hq' := Lib.hid hq
        clear hq
        go_wp2_with (first | (go_at_call 95; refine (classOf_any _ hb.out _).mono ?_; rintro e w' ⟨rfl, rfl⟩) | (go_at_call 70; refine (litS _ _).mono ?_; rintro e w' ⟨rfl, rfl⟩; rw [hq'.out]))
        go_roundw
        case rel => exact ⟨k + 1, by omega, by go_num, by show _ = _; rw [hsu.out, ha.out]; exact hq'.out, trivial⟩
        case measure => simp [intOf]; omega
    · have hall := Lib.hid (allK_all (onCls qS) s k (by omega))
      obtain rfl : k = s.size := by omega
      go_wp2
      go_ret
      exact ⟨retb (by rw [← hall.out]; exact ha.out.symm), rfl⟩

theorem consistsG (s : ByteArray) (hs : s.size ≤ 281474976710656) (w : World) :
    Calls Try.prog 68 #[.string s, .func (.func 72) #[] #[]] w fun e w' => e = .returned (.bool (allB (onCls qG) s)) ∧ w = w' := by
  go_enter Try.func68, Try.ntmps68
  go_wp2
  go_loopw [8] (fun i wr => ∃ k : Nat, k ≤ s.size ∧ i = .int .i64 k ∧ Hid (allK (onCls qG) s k = true) ∧ w = wr) (fun i _ => s.size - (intOf i).toNat)
  case atStart => exact ⟨0, Nat.zero_le _, rfl, allK_zero _ _, rfl⟩
  case round =>
    obtain ⟨k, hk, rfl, ha, rfl⟩ := hrel
    by_cases hlt : k < s.size
    · have hb := Lib.hid (show (s[k]).toNat ≤ 255 by have := s[k].toNat_lt; omega)
      have hsu := Lib.hid (allK_succ (onCls qG) s k hlt)
      have hno := Lib.hid (allB_no (onCls qG) s k hlt)
      cases hq : qG (cls s[k].toNat)
      · have hq' := Lib.hid hq
        clear hq
        go_wp2_with (first | (go_at_call 95; refine (classOf_any _ hb.out _).mono ?_; rintro e w' ⟨rfl, rfl⟩) | (go_at_call 72; refine (litG _ _).mono ?_; rintro e w' ⟨rfl, rfl⟩; rw [hq'.out]))
        go_ret
        exact ⟨retb (hno.out hq'.out).symm, rfl⟩
      · have hq' := Lib.hid hq
        clear hq
        go_wp2_with (first | (go_at_call 95; refine (classOf_any _ hb.out _).mono ?_; rintro e w' ⟨rfl, rfl⟩) | (go_at_call 72; refine (litG _ _).mono ?_; rintro e w' ⟨rfl, rfl⟩; rw [hq'.out]))
        go_roundw
        case rel => exact ⟨k + 1, by omega, by go_num, by show _ = _; rw [hsu.out, ha.out]; exact hq'.out, trivial⟩
        case measure => simp [intOf]; omega
    · have hall := Lib.hid (allK_all (onCls qG) s k (by omega))
      obtain rfl : k = s.size := by omega
      go_wp2
      go_ret
      exact ⟨retb (by rw [← hall.out]; exact ha.out.symm), rfl⟩

theorem consistsW (s : ByteArray) (hs : s.size ≤ 281474976710656) (w : World) :
    Calls Try.prog 68 #[.string s, .func (.func 98) #[] #[]] w fun e w' => e = .returned (.bool (allB (onCls qW) s)) ∧ w = w' := by
  go_enter Try.func68, Try.ntmps68
  go_wp2
  go_loopw [8] (fun i wr => ∃ k : Nat, k ≤ s.size ∧ i = .int .i64 k ∧ Hid (allK (onCls qW) s k = true) ∧ w = wr) (fun i _ => s.size - (intOf i).toNat)
  case atStart => exact ⟨0, Nat.zero_le _, rfl, allK_zero _ _, rfl⟩
  case round =>
    obtain ⟨k, hk, rfl, ha, rfl⟩ := hrel
    by_cases hlt : k < s.size
    · have hb := Lib.hid (show (s[k]).toNat ≤ 255 by have := s[k].toNat_lt; omega)
      have hsu := Lib.hid (allK_succ (onCls qW) s k hlt)
      have hno := Lib.hid (allB_no (onCls qW) s k hlt)
      cases hq : qW (cls s[k].toNat)
      · have hq' := Lib.hid hq
        clear hq
        go_wp2_with (first | (go_at_call 95; refine (classOf_any _ hb.out _).mono ?_; rintro e w' ⟨rfl, rfl⟩) | (go_at_call 98; refine (litW _ _).mono ?_; rintro e w' ⟨rfl, rfl⟩; rw [hq'.out]))
        go_ret
        exact ⟨retb (hno.out hq'.out).symm, rfl⟩
      · have hq' := Lib.hid hq
        clear hq
        go_wp2_with (first | (go_at_call 95; refine (classOf_any _ hb.out _).mono ?_; rintro e w' ⟨rfl, rfl⟩) | (go_at_call 98; refine (litW _ _).mono ?_; rintro e w' ⟨rfl, rfl⟩; rw [hq'.out]))
        go_roundw
        case rel => exact ⟨k + 1, by omega, by go_num, by show _ = _; rw [hsu.out, ha.out]; exact hq'.out, trivial⟩
        case measure => simp [intOf]; omega
    · have hall := Lib.hid (allK_all (onCls qW) s k (by omega))
      obtain rfl : k = s.size := by omega
      go_wp2
      go_ret
      exact ⟨retb (by rw [← hall.out]; exact ha.out.symm), rfl⟩

end Go.Proofs.Ytflfeimmdpjbeaa.Tok
