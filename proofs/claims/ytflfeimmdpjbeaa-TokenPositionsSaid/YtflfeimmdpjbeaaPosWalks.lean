/- Contracts of endsLine and of both Positions. -/
import Derived.Test.YtflfeimmdpjbeaaRows
import Derived.Test.YtflfeimmdpjbeaaTokMath
import Derived.WalkKit
import Derived.ProofKit
import Derived.BigQuiet
import Derived.Deep.QuietTactic
import Derived.Lib.Hide
import Derived.WalkSpells
import Derived.WalkLawsBesides
import Derived.Outline
namespace Go.Proofs.Ytflfeimmdpjbeaa.Tok
open Go.RowKit Go.Proofs.Ytflfeimmdpjbeaa

theorem ret_bool {a b : Bool} (h : a = b) : Ending.returned (.bool a) = .returned (.bool b) := by rw [h]
theorem ret_int {k : IntKind} {a b : Int} (h : a = b) : Ending.returned (.int k a) = .returned (.int k b) := by rw [h]

/-- A line ends behind place k. -/
def eolB (s : ByteArray) (k : Nat) : Bool :=
  if h : k < s.size then
    if s[k].toNat = 13 then (if h' : k + 1 < s.size then ((s[k+1].toNat : Nat) : Int) != 10 else true) else ((s[k].toNat : Nat) : Int) == 10
  else false

theorem endsLine_any (s : ByteArray) (k : Nat) (hk : k < s.size) (hs : s.size ≤ 281474976710656) (w : World) :
    Calls Try.prog 73 #[.string s, .int .i64 k] w fun e w' => e = .returned (.bool (eolB s k)) ∧ w = w' := by

  by_cases h13 : s[k].toNat = 13
  · have h13' : (((s[k].toNat : Nat) : Int) == 13) = true := by rw [h13]; rfl
    by_cases hn : k + 1 < s.size
    · have hn' : (((k : Int) + 1) == (s.size : Int)) = false := by rw [beq_eq_false_iff_ne]; omega
      have hfin := Lib.hid (show eolB s k = (((s[k+1].toNat : Nat) : Int) != 10) by unfold eolB; rw [dif_pos hk, if_pos h13, dif_pos hn])
      clear h13
      go_enter Try.func73, Try.ntmps73
      go_wp2
      go_ret
      exact ⟨ret_bool hfin.out.symm, rfl⟩
    · have hn' : (((k : Int) + 1) == (s.size : Int)) = true := by rw [beq_iff_eq]; omega
      have hfin := Lib.hid (show eolB s k = true by unfold eolB; rw [dif_pos hk, if_pos h13, dif_neg hn])
      clear h13
      go_enter Try.func73, Try.ntmps73
      go_wp2
      go_ret
      exact ⟨ret_bool hfin.out.symm, rfl⟩
  · have h13' : (((s[k].toNat : Nat) : Int) == 13) = false := by rw [beq_eq_false_iff_ne]; omega
    have hfin := Lib.hid (show eolB s k = (((s[k].toNat : Nat) : Int) == 10) by unfold eolB; rw [dif_pos hk, if_neg h13])
    clear h13
    go_enter Try.func73, Try.ntmps73
    go_wp2
    go_ret
    exact ⟨ret_bool hfin.out.symm, rfl⟩

/-- How many lines end in the first k bytes, and where the last of these ends. -/
def lineS (s : ByteArray) : Nat → Nat
  | 0 => 0
  | k + 1 => if eolB s k then lineS s k + 1 else lineS s k
def begS (s : ByteArray) : Nat → Nat
  | 0 => 0
  | k + 1 => if eolB s k then k + 1 else begS s k
theorem lineS_le (s : ByteArray) : ∀ k, lineS s k ≤ k
  | 0 => Nat.le_refl _
  | k + 1 => by unfold lineS; have := lineS_le s k; split <;> omega
theorem begS_le (s : ByteArray) : ∀ k, begS s k ≤ k
  | 0 => Nat.le_refl _
  | k + 1 => by unfold begS; have := begS_le s k; split <;> omega

theorem pos_bad (s : ByteArray) (a : Int) (h : a < 0 ∨ (s.size : Int) < a) (hs : s.size ≤ 281474976710656) (w : World) :
    Calls Try.prog 34 #[.string s, .int .i64 a] w fun e w' => e = .returned (.tuple #[.int .i64 0, .int .i64 0, .int .i64 3]) ∧ w = w' := by

  rcases h with h | h
  · go_enter Try.func34, Try.ntmps34
    go_wp2
    go_ret3
    exact ⟨rfl, rfl⟩
  · have h0 : 0 ≤ a := by omega
    go_enter Try.func34, Try.ntmps34
    go_wp2
    go_ret3
    exact ⟨rfl, rfl⟩

theorem pos_good (s : ByteArray) (a : Nat) (h : a ≤ s.size) (hs : s.size ≤ 281474976710656) (w : World) :
    Calls Try.prog 34 #[.string s, .int .i64 a] w fun e w' => e = .returned (.tuple #[.int .i64 (lineS s a + 1 : Int), .int .i64 ((a : Int) - begS s a + 1), .int .i64 0]) ∧ w = w' := by
  have hs' := hs
  have hd1 : decide (s.size < a) = false := by simpa using h
  have hd2 : decide ((a : Int) < 0) = false := by simp
  go_enter Try.func34, Try.ntmps34
  go_wp2
  go_loopw [7, 8, 19] (fun e b i wr => ∃ k : Nat, k ≤ a ∧ i = .int .i64 k ∧ e = .int .i64 (lineS s k : Nat) ∧ b = .int .i64 (begS s k : Nat) ∧ w = wr) (fun _ _ i _ => a - (intOf i).toNat)
  case atStart => exact ⟨0, Nat.zero_le _, rfl, rfl, rfl, rfl⟩
  case round =>
    obtain ⟨k, hk, rfl, rfl, rfl, rfl⟩ := hrel
    have h1 := lineS_le s k
    have h2 := begS_le s k
    by_cases hlt : k < a
    · have hE : Hid (lineS s (k + 1) = if eolB s k then lineS s k + 1 else lineS s k) := rfl
      have hB : Hid (begS s (k + 1) = if eolB s k then k + 1 else begS s k) := rfl
      cases he : eolB s k
      all_goals
        have he' := Lib.hid he
        clear he
        go_wp2_with (go_at_call 73; refine (endsLine_any s k (by omega) hs' _).mono ?_; rintro e w' ⟨rfl, rfl⟩; rw [he'.out])
        go_roundw
        case rel => exact ⟨k + 1, by omega, by go_num, by rw [hE.out, he'.out]; go_num, by rw [hB.out, he'.out]; go_num, trivial⟩
        case measure => simp [intOf]; omega
    · obtain rfl : k = a := by omega
      go_wp2
      go_ret3
      exact ⟨rfl, rfl⟩

def feedB (s : ByteArray) (k : Nat) : Bool := if h : k + 1 < s.size then ((s[k+1].toNat : Nat) : Int) == 10 else false
theorem eolB_of (s : ByteArray) (k : Nat) (hk : k < s.size) :
    eolB s k = ((((s[k].toNat : Nat) : Int) == 10) || ((((s[k].toNat : Nat) : Int) == 13) && !(feedB s k))) := by
  unfold eolB feedB
  rw [dif_pos hk]
  by_cases h13 : s[k].toNat = 13
  · by_cases hn : k + 1 < s.size
    · simp [h13, hn, bne]
    · simp [h13, hn]
  · rw [if_neg h13, show ((((s[k].toNat : Nat) : Int)) == 13) = false from by rw [beq_eq_false_iff_ne]; omega]
    simp

theorem rpos_bad (s : ByteArray) (a : Int) (h : a < 0 ∨ (s.size : Int) < a) (hs : s.size ≤ 281474976710656) (w : World) :
    Calls Try.prog 35 #[.string s, .int .i64 a] w fun e w' => e = .returned (.tuple #[.int .i64 0, .int .i64 0, .int .i64 3]) ∧ w = w' := by
  rcases h with h | h
  · go_enter Try.func35, Try.ntmps35
    go_wp2
    go_ret3
    exact ⟨rfl, rfl⟩
  · have h0 : 0 ≤ a := by omega
    go_enter Try.func35, Try.ntmps35
    go_wp2
    go_ret3
    exact ⟨rfl, rfl⟩

theorem rpos_good (s : ByteArray) (a : Nat) (h : a ≤ s.size) (hs : s.size ≤ 281474976710656) (w : World) :
    Calls Try.prog 35 #[.string s, .int .i64 a] w fun e w' => e = .returned (.tuple #[.int .i64 (lineS s a + 1 : Int), .int .i64 ((a : Int) - begS s a + 1), .int .i64 0]) ∧ w = w' := by
  have hd1 : decide (s.size < a) = false := by simpa using h
  have hd2 : decide ((a : Int) < 0) = false := by simp
  go_enter Try.func35, Try.ntmps35
  go_wp2
  go_loop [7, 8, 9] (fun l c i => ∃ k : Nat, k ≤ a ∧ i = .int .i64 k ∧ l = .int .i64 ((lineS s k : Nat) + 1) ∧ c = .int .i64 ((k : Int) - (begS s k : Nat) + 1)) (fun _ _ i => a - (intOf i).toNat)
  case atStart => exact ⟨0, Nat.zero_le _, rfl, rfl, rfl⟩
  case round =>
    obtain ⟨k, hk, rfl, rfl, rfl⟩ := hrel
    have h1 := lineS_le s k
    have h2 := begS_le s k
    by_cases hlt : k < a
    · have hE : Hid (lineS s (k + 1) = if eolB s k then lineS s k + 1 else lineS s k) := rfl
      have hB : Hid (begS s (k + 1) = if eolB s k then k + 1 else begS s k) := rfl
      have hks : k < s.size := by omega
      have heo := eolB_of s k hks
      by_cases hn : k + 1 < s.size
      · have hfd : feedB s k = (((s[k+1].toNat : Nat) : Int) == 10) := by unfold feedB; rw [dif_pos hn]
        rw [hfd] at heo
        clear hfd
        cases hf : (((s[k+1].toNat : Nat) : Int) == 10) <;> cases h10 : (((s[k].toNat : Nat) : Int) == 10) <;> cases h13 : (((s[k].toNat : Nat) : Int) == 13)
        all_goals
          rw [hf, h10, h13] at heo
          have he' := Lib.hid heo
          clear heo
          first
            | (exfalso; simp at h10 h13; omega)
            | skip
          all_goals
            go_wp2
            go_round
            case rel => exact ⟨k + 1, by omega, by go_num, by rw [hE.out, he'.out]; go_num, by rw [hB.out, he'.out]; simp <;> omega⟩
            case measure => simp [intOf]; omega
      · have hfd : feedB s k = false := by unfold feedB; rw [dif_neg hn]
        rw [hfd] at heo
        clear hfd
        cases h10 : (((s[k].toNat : Nat) : Int) == 10) <;> cases h13 : (((s[k].toNat : Nat) : Int) == 13)
        all_goals
          rw [h10, h13] at heo
          have he' := Lib.hid heo
          clear heo
          first
            | (exfalso; simp at h10 h13; omega)
            | skip
          all_goals
            go_wp2
            go_round
            case rel => exact ⟨k + 1, by omega, by go_num, by rw [hE.out, he'.out]; go_num, by rw [hB.out, he'.out]; simp <;> omega⟩
            case measure => simp [intOf]; omega
    · obtain rfl : k = a := by omega
      go_wp2
      go_ret3
      exact ⟨rfl, rfl⟩
end Go.Proofs.Ytflfeimmdpjbeaa.Tok
