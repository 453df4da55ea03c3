/- The reference's test for a hidden comment keyword, and that it is the program's. -/
import Derived.Test.YtmekdghnkkephaaStrip
namespace Go.Proofs.Ytmekdghnkkephaa.Tok
open Go.RowKit Go.Proofs.Ytmekdghnkkephaa

def hasP (c : UInt8) : List UInt8 → Bool
  | [] => false
  | b :: l => [36, c].isPrefixOf (b :: l) || hasP c l
def hasL (l : List UInt8) : Bool := hasP 40 l || hasP 41 l

theorem contains_hasP (c : UInt8) (l : List UInt8) : Lib.contains l [36, c] = hasP c l := by
  induction l with
  | nil => rfl
  | cons b l ih =>
    have hge := Lib.index_ge l [36, c]
    unfold hasP
    rw [← ih]
    unfold Lib.contains
    rw [Lib.index]
    cases hp : [36, c].isPrefixOf (b :: l)
    · by_cases hi : Lib.index l [36, c] = -1
      · simp [hi]
      · have h2 : (Lib.index l [36, c] == -1) = false := by rw [beq_eq_false_iff_ne]; exact hi
        rw [h2]
        simp only [Bool.false_eq_true, if_false, Bool.false_or]
        rw [decide_eq_decide]
        omega
    · simp
theorem hidB_hasL (s : ByteArray) : hidB s = (hasL s.data.toList && decide (2 < s.size)) := by
  unfold hidB hasL
  rw [contains_hasP, contains_hasP, Bool.and_comm]
theorem hasP_short {c : UInt8} {l : List UInt8} (h : l.length < 2) : hasP c l = false := by
  match l, h with
  | [], _ => rfl
  | [b], _ => simp [hasP, List.isPrefixOf]
theorem hasL_short {l : List UInt8} (h : l.length < 2) : hasL l = false := by
  unfold hasL
  rw [hasP_short h, hasP_short h]
  rfl
theorem hasP_two (c a b : UInt8) (r : List UInt8) : hasP c (a :: b :: r) = ((a == 36 && b == c) || hasP c (b :: r)) := by
  show ([36, c].isPrefixOf (a :: b :: r) || hasP c (b :: r)) = _
  rw [show [36, c].isPrefixOf (a :: b :: r) = (a == 36 && b == c) from by simp only [List.isPrefixOf, Bool.and_true]; rw [Bool.beq_comm (a := a), Bool.beq_comm (a := b)]]
theorem hasL_two (a b : UInt8) (r : List UInt8) : hasL (a :: b :: r) = ((a == 36 && (b == 40 || b == 41)) || hasL (b :: r)) := by
  unfold hasL
  rw [hasP_two, hasP_two]
  cases (a == 36) <;> cases (b == 40) <;> cases (b == 41) <;> cases hasP 40 (b :: r) <;> cases hasP 41 (b :: r) <;> rfl
theorem hasL_at (s : ByteArray) (k : Nat) (h : k + 1 < s.size) : hasL (s.data.toList.drop k) = ((s[k] == 36 && (s[k + 1] == 40 || s[k + 1] == 41)) || hasL (s.data.toList.drop (k + 1))) := by
  have h0 : s.data.toList.drop k = s[k] :: s.data.toList.drop (k + 1) := by
    rw [List.drop_eq_getElem_cons (by simp; omega)]
    rfl
  have h1 : s.data.toList.drop (k + 1) = s[k + 1] :: s.data.toList.drop (k + 2) := by
    rw [List.drop_eq_getElem_cons (by simp; omega)]
    rfl
  rw [h0, h1]
  exact hasL_two _ _ _
theorem beq_u8 (a b : UInt8) : (a == b) = decide (a.toNat = b.toNat) := by
  rw [Bool.eq_iff_iff, beq_iff_eq, decide_eq_true_iff]
  exact ⟨fun h => by rw [h], fun h => UInt8.toNat_inj.1 h⟩

theorem b36 (a : UInt8) : (a == 36) = decide (a.toNat = 36) := beq_u8 a 36
theorem b40 (a : UInt8) : (a == 40) = decide (a.toNat = 40) := beq_u8 a 40
theorem b41 (a : UInt8) : (a == 41) = decide (a.toNat = 41) := beq_u8 a 41

set_option maxHeartbeats 1600000 in
theorem rhas_any (s : ByteArray) (hs : s.size ≤ 40000) (w : World) :
    Calls Try.prog 37 #[.string s] w fun e w' => e = .returned (.bool (hasL s.data.toList)) ∧ w = w' := by
  go_enter Try.func37, Try.ntmps37
  go_wp2
  go_loopw [3] (fun i wr => ∃ k : Nat, k ≤ s.size ∧ i = .int .i64 k ∧ Hid (hasL s.data.toList = hasL (s.data.toList.drop k)) ∧ w = wr) (fun i _ => s.size - (intOf i).toNat)
  case atStart => exact ⟨0, Nat.zero_le _, rfl, rfl, rfl⟩
  case round =>
    obtain ⟨k, hk, rfl, ha, rfl⟩ := hrel
    by_cases hlt : k + 1 < s.size
    · have hst := hasL_at s k hlt
      rw [b36, b40, b41] at hst
      by_cases h1 : (s[k]).toNat = 36
      · have e1 : (((s[k]).toNat : Int) == 36) = true := by rw [beq_iff_eq]; omega
        by_cases h2 : (s[k + 1]).toNat = 40
        · have e2 : (((s[k + 1]).toNat : Int) == 40) = true := by rw [beq_iff_eq]; omega
          have Hr := Lib.hid (show hasL s.data.toList = true by rw [ha.out, hst, h1, h2]; rfl)
          clear hst h1 h2
          go_wp2
          go_ret
          exact ⟨retb Hr.out.symm, rfl⟩
        · have e2 : (((s[k + 1]).toNat : Int) == 40) = false := by rw [beq_eq_false_iff_ne]; omega
          by_cases h3 : (s[k + 1]).toNat = 41
          · have e3 : (((s[k + 1]).toNat : Int) == 41) = true := by rw [beq_iff_eq]; omega
            have Hr := Lib.hid (show hasL s.data.toList = true by rw [ha.out, hst, h1, h3]; rfl)
            clear hst h1 h2 h3
            go_wp2
            go_ret
            exact ⟨retb Hr.out.symm, rfl⟩
          · have e3 : (((s[k + 1]).toNat : Int) == 41) = false := by rw [beq_eq_false_iff_ne]; omega
            have Hr := Lib.hid (show hasL s.data.toList = hasL (s.data.toList.drop (k + 1)) by rw [ha.out, hst, decide_eq_false h2, decide_eq_false h3]; simp)
            clear hst h1 h2 h3
            go_wp2
            go_roundw
            case rel => exact ⟨k + 1, by omega, by go_num, Hr, trivial⟩
            case measure => simp [intOf]; omega
      · have e1 : (((s[k]).toNat : Int) == 36) = false := by rw [beq_eq_false_iff_ne]; omega
        have Hr := Lib.hid (show hasL s.data.toList = hasL (s.data.toList.drop (k + 1)) by rw [ha.out, hst, decide_eq_false h1]; simp)
        clear hst h1
        go_wp2
        go_roundw
        case rel => exact ⟨k + 1, by omega, by go_num, Hr, trivial⟩
        case measure => simp [intOf]; omega
    · have Hr := Lib.hid (show hasL s.data.toList = false by rw [ha.out]; exact hasL_short (by simp; omega))
      go_wp2
      go_ret
      exact ⟨retb Hr.out.symm, rfl⟩
end Go.Proofs.Ytmekdghnkkephaa.Tok
