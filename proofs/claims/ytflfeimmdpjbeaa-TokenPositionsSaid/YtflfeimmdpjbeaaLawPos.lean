/- The law TokenPositions: every way through it returns true. -/
import Derived.Test.YtflfeimmdpjbeaaPosWalks
import Derived.Test.YtflfeimmdpjbeaaAwake
namespace Go.Proofs.Ytflfeimmdpjbeaa.Tok
open Go.RowKit Go.Proofs.Ytflfeimmdpjbeaa

theorem lineS_mono (s : ByteArray) (a : Nat) : ∀ d, lineS s a ≤ lineS s (a + d) ∧ (lineS s (a + d) = lineS s a → begS s (a + d) = begS s a)
  | 0 => ⟨Nat.le_refl _, fun _ => rfl⟩
  | d + 1 => by
    have ih := lineS_mono s a d
    have e1 : lineS s (a + (d + 1)) = if eolB s (a + d) then lineS s (a + d) + 1 else lineS s (a + d) := rfl
    have e2 : begS s (a + (d + 1)) = if eolB s (a + d) then a + d + 1 else begS s (a + d) := rfl
    rw [e1, e2]
    cases eolB s (a + d)
    · simpa using ih
    · simp only [if_true]
      exact ⟨by omega, fun h => by omega⟩

/-- A later offset has a later position. -/
theorem later (s : ByteArray) (a b : Nat) (h : a < b) : ((lineS s b : Int) + 1 < (lineS s a : Int) + 1) = False ∧
    (lineS s b = lineS s a → (a : Int) - begS s a + 1 < (b : Int) - begS s b + 1) := by
  obtain ⟨h1, h2⟩ := lineS_mono s a (b - a)
  rw [show a + (b - a) = b from by omega] at h1 h2
  exact ⟨by simp; omega, fun e => by rw [h2 e]; omega⟩

set_option maxHeartbeats 1600000 in
theorem law_pos (s : ByteArray) (a b : Int) (hs : s.size ≤ maxLen) (w : World) :
    Calls Try.prog 5 #[.string s, .int .i64 a, .int .i64 b] w fun e w' => e = .returned (.bool true) ∧ Below w.heap.size w w' := by
  unfold maxLen at hs
  by_cases hbig : 1000 < (s.size : Int)
  · go_enter Try.func5, Try.ntmps5
    go_wp2_with (go_at_call 15; refine (awake_any _).mono ?_; rintro e w' ⟨rfl, hb⟩)
    go_ret
    exact ⟨rfl, hb⟩
  · have hs' : s.size ≤ 281474976710656 := by omega
    by_cases hbad : a < 0 ∨ (s.size : Int) < a
    · go_enter Try.func5, Try.ntmps5
      go_wp2_with (first
        | (go_at_call 15; refine (awake_any _).mono ?_; rintro e w' ⟨rfl, hb⟩)
        | (go_at_call 34; refine (pos_bad s a hbad hs' _).mono ?_; rintro e w' ⟨rfl, rfl⟩)
        | (go_at_call 35; refine (rpos_bad s a hbad hs' _).mono ?_; rintro e w' ⟨rfl, rfl⟩))
      go_ret
      exact ⟨rfl, hb⟩
    · obtain ⟨n, rfl⟩ := Int.eq_ofNat_of_zero_le (show 0 ≤ a by omega)
      have hn : n ≤ s.size := by omega
      have hl1 := lineS_le s n
      have hl2 := begS_le s n
      clear hbad
      by_cases hlat : (n : Int) < b ∧ b ≤ (s.size : Int)
      · obtain ⟨m, rfl⟩ := Int.eq_ofNat_of_zero_le (show 0 ≤ b by omega)
        obtain ⟨hb1, hb2⟩ := hlat
        have hm : m ≤ s.size := by omega
        have hm1 := lineS_le s m
        have hm2 := begS_le s m
        have hlt := later s n m (by omega)
        have hmono := (lineS_mono s n (m - n)).1
        rw [show n + (m - n) = m from by omega] at hmono
        by_cases heq : lineS s m = lineS s n
        · have h1 := hlt.2 heq
          have heqB : (((lineS s m : Nat) : Int) + 1 == ((lineS s n : Nat) : Int) + 1) = true := by rw [heq, beq_self_eq_true]
          clear hlt heq
          go_enter Try.func5, Try.ntmps5
          go_wp2_with fail
          refine (pos_good s n hn hs' _).mono ?_
          rintro e w' ⟨rfl, rfl⟩
          go_wp2_with fail
          refine (rpos_good s n hn hs' _).mono ?_
          rintro e w' ⟨rfl, rfl⟩
          go_wp2_with fail
          refine (pos_good s m hm hs' _).mono ?_
          rintro e w' ⟨rfl, rfl⟩
          go_wp2_with (go_at_call 15; refine (awake_any _).mono ?_; rintro e w' ⟨rfl, hb⟩)
          go_ret
          exact ⟨rfl, hb⟩
        · have heqB : (((lineS s m : Nat) : Int) + 1 == ((lineS s n : Nat) : Int) + 1) = false := by rw [beq_eq_false_iff_ne]; omega
          clear hlt heq
          go_enter Try.func5, Try.ntmps5
          go_wp2_with fail
          refine (pos_good s n hn hs' _).mono ?_
          rintro e w' ⟨rfl, rfl⟩
          go_wp2_with fail
          refine (rpos_good s n hn hs' _).mono ?_
          rintro e w' ⟨rfl, rfl⟩
          go_wp2_with fail
          refine (pos_good s m hm hs' _).mono ?_
          rintro e w' ⟨rfl, rfl⟩
          go_wp2_with (go_at_call 15; refine (awake_any _).mono ?_; rintro e w' ⟨rfl, hb⟩)
          go_ret
          exact ⟨rfl, hb⟩
      · go_enter Try.func5, Try.ntmps5
        go_wp2_with fail
        refine (pos_good s n hn hs' _).mono ?_
        rintro e w' ⟨rfl, rfl⟩
        go_wp2_with fail
        refine (rpos_good s n hn hs' _).mono ?_
        rintro e w' ⟨rfl, rfl⟩
        go_wp2_with (go_at_call 15; refine (awake_any _).mono ?_; rintro e w' ⟨rfl, hb⟩)
        all_goals (go_ret; exact ⟨rfl, ‹_›⟩)
end Go.Proofs.Ytflfeimmdpjbeaa.Tok
