/- Contract of the reference's letters of a number. -/
import Derived.Test.YtjdomdeejibnmaaNumMath
import Derived.Test.YtjdomdeejibnmaaRefNums
namespace Go.Proofs.Ytjdomdeejibnmaa.Tok
open Go.RowKit Go.Proofs.Ytjdomdeejibnmaa

def letV (n : Int) : Value := if 1 ≤ n ∧ n ≤ 1000000 then .tuple #[.string ⟨(lettersF n.toNat).toArray⟩, .int .i64 0] else .tuple #[.string ⟨#[]⟩, .int .i64 3]

theorem highs_zero (t : List UInt8) : highs 0 t = t := by rw [highs]
theorem enc_ascii (c : Nat) (h : c < 128) : Utf8.encode (c : Int) = ⟨#[UInt8.ofNat c]⟩ := by
  have hv : Utf8.valid (c : Int) = true := by
    unfold Utf8.valid
    simp
    omega
  unfold Utf8.encode
  rw [hv]
  simp [h]
theorem enc_cons (b : UInt8) (acc : List UInt8) : (⟨#[b]⟩ : ByteArray) ++ ⟨acc.toArray⟩ = ⟨(b :: acc).toArray⟩ := by
  apply ByteArray.ext
  rw [ByteArray.data_append]
  simp

set_option maxHeartbeats 1600000 in
set_option maxRecDepth 8000 in
theorem rletters_any (i : Int) (w : World) : Calls Try.prog 30 #[.int .i64 i] w fun e w' => e = .returned (letV i) ∧ w = w' := by
  by_cases h : 1 ≤ i ∧ i ≤ 1000000
  · obtain ⟨k, rfl⟩ : ∃ k : Nat, i = (k : Int) := ⟨i.toNat, by omega⟩
    have Hv := Lib.hid (show letV (k : Int) = .tuple #[.string ⟨(lettersF k).toArray⟩, .int .i64 0] by unfold letV; rw [if_pos h]; rfl)
    obtain ⟨h1, h2⟩ := h
    have h3 : 1 ≤ k := by omega
    have h4 : k ≤ 1000000 := by omega
    go_enter Try.func30, Try.ntmps30
    go_wp2
    go_loopw [4, 5] (fun v r wr => ∃ (m : Nat) (acc : List UInt8), v = .string ⟨acc.toArray⟩ ∧ r = .int .i64 m ∧ Hid (highs m acc = lettersF k) ∧ acc.length + m ≤ 50001 ∧ w = wr) (fun _ r _ => (intOf r).toNat)
    case atStart =>
      have e1 : (65 + ((k : Int) - 1) % 20) = ((65 + (k - 1) % 20 : Nat) : Int) := by omega
      refine ⟨(k - 1) / 20, [UInt8.ofNat (65 + (k - 1) % 20)], ?_, ?_, rfl, ?_, rfl⟩
      · rw [e1, enc_ascii _ (by omega)]
      · congr 1
        omega
      · simp
        omega
    case round =>
      obtain ⟨m, acc, rfl, rfl, hh, hl, rfl⟩ := hrel
      by_cases h0 : m = 0
      · subst h0
        go_wp2
        go_ret2
        exact ⟨by rw [Hv.out, ← hh.out, highs_zero]; rfl, rfl⟩
      · have h0' : 0 < (m : Int) := by omega
        have e1 : (85 + ((m : Int) - 1) % 5) = ((85 + (m - 1) % 5 : Nat) : Int) := by omega
        have E1 := Lib.hid (show Utf8.encode (85 + ((m : Int) - 1) % 5) ++ (⟨acc.toArray⟩ : ByteArray) = ⟨(UInt8.ofNat (85 + (m - 1) % 5) :: acc).toArray⟩ by rw [e1, enc_ascii _ (by omega), enc_cons])
        have Hs := Lib.hid (highs_pos (show 0 < m by omega) acc)
        have hsz : (Utf8.encode (85 + ((m : Int) - 1) % 5)).size = 1 := by rw [e1, enc_ascii _ (by omega)]; rfl
        have hsa : (⟨acc.toArray⟩ : ByteArray).size = acc.length := by show acc.toArray.size = _; simp
        clear e1 h0
        go_wp2
        go_light
        refine ⟨⟨(m - 1) / 5, UInt8.ofNat (85 + (m - 1) % 5) :: acc, by rw [← E1.out], by congr 1; omega, by show _ = _; rw [← Hs.out]; exact hh.out, by simp; omega, trivial⟩, by simp [intOf]; omega⟩
  · have Hv := Lib.hid (show letV i = .tuple #[.string ⟨#[]⟩, .int .i64 3] by unfold letV; rw [if_neg h])
    have h' : i < 1 ∨ 1000000 < i := by omega
    clear h
    rcases h' with h | h
    all_goals
      go_enter Try.func30, Try.ntmps30
      go_wp2
      go_ret2
      exact ⟨by rw [Hv.out]; rfl, rfl⟩
end Go.Proofs.Ytjdomdeejibnmaa.Tok
