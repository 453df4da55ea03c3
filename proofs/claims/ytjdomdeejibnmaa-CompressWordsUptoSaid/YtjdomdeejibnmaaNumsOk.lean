/- Both tests of a code's numbers. -/
import Derived.Test.YtjdomdeejibnmaaNumMath
import Derived.Test.YtjdomdeejibnmaaRefNums
import Derived.Test.YtjdomdeejibnmaaBoolIs
namespace Go.Proofs.Ytjdomdeejibnmaa.Tok
open Go.RowKit Go.Proofs.Ytjdomdeejibnmaa

def numAt (x prev : Int) : Bool := decide (-1 ≤ x) && decide (x ≤ 1000000) && !(x == 0 && decide (prev ≤ 0))
def NumTo (l : List Int) (m : Nat) : Prop := ∀ k, (h : k < l.length) → k < m → numAt l[k] (lastOf (l.take k)) = true
def NumOk (l : List Int) : Prop := NumTo l l.length
theorem NumTo.zero (l : List Int) : NumTo l 0 := fun _ _ h => absurd h (by omega)
theorem NumTo.succ {l : List Int} {m : Nat} (h : NumTo l m) (hm : m < l.length) (h1 : numAt l[m] (lastOf (l.take m)) = true) : NumTo l (m + 1) := fun k hk hlt => by
  rcases (show k < m ∨ k = m by omega) with h3 | rfl
  · exact h k hk h3
  · exact h1
theorem NumOk.not {l : List Int} {m : Nat} (hm : m < l.length) (h1 : numAt l[m] (lastOf (l.take m)) = false) : ¬ NumOk l := fun h => by
  have := h m hm hm
  rw [h1] at this
  cases this
theorem last_take (l : List Int) (m : Nat) (hm : m < l.length) : lastOf (l.take (m + 1)) = l[m] := by rw [List.take_succ_eq_append_getElem hm, lastOf_snoc]

set_option maxHeartbeats 1600000 in
set_option maxRecDepth 8000 in
theorem areNumbers_any (A : Option Addr) (n c : Nat) (l : List Int) (w : World) (hn : n ≤ 1000000) (hr : Rd w w.heap.size 1 A n (l.map (Value.int .i64))) :
    Calls Try.prog 26 #[.slice A n c] w fun e w' => BoolIs e (NumOk l) ∧ w = w' := by
  have hlen : l.length = n := by have := hr.len; simp at this; omega
  have Hlen := Lib.hid hlen
  have Hr := Lib.hid hr
  clear hlen hr
  go_enter Try.func26, Try.ntmps26
  go_wp2
  go_loopw [3, 8] (fun v i wr => ∃ (k : Nat) (p : Int), k ≤ n ∧ i = .int .i64 k ∧ v = .int .i64 p ∧ Hid (p = lastOf (l.take k)) ∧ Hid (NumTo l k) ∧ w = wr) (fun _ i _ => n - (intOf i).toNat)
  case atStart => exact ⟨0, 0, Nat.zero_le _, rfl, rfl, rfl, NumTo.zero l, rfl⟩
  case round =>
    obtain ⟨k, p, hk, rfl, rfl, hp, hto, rfl⟩ := hrel
    by_cases hlt : k < n
    · obtain ⟨bq, off, rfl, hbb, hc⟩ := Hr.out.pos (by omega)
      have hk1 : k < l.length := by have := Hlen.out; omega
      have hcell := hc k (.int .i64 l[k]) (by simp [hk1])
      have Hno := Lib.hid (fun h => NumOk.not (l := l) hk1 h)
      have Hs := Lib.hid (fun h => hto.out.succ hk1 h)
      have Hla := Lib.hid (last_take l k hk1)
      rw [← hp.out] at Hno Hs
      obtain ⟨x, hx⟩ : ∃ x, x = l[k] := ⟨_, rfl⟩
      rw [← hx] at hcell Hno Hs Hla
      clear hx hc hto hp
      by_cases a1 : x < -1
      · have HN := Lib.hid (Hno.out (by unfold numAt; rw [decide_eq_false (by omega)]; rfl))
        go_wp2
        go_ret
        exact ⟨BoolIs.no HN.out, rfl⟩
      · by_cases a2 : 1000000 < x
        · have HN := Lib.hid (Hno.out (by unfold numAt; rw [decide_eq_false (show ¬ x ≤ 1000000 by omega)]; simp))
          go_wp2
          go_ret
          exact ⟨BoolIs.no HN.out, rfl⟩
        · by_cases a3 : x = 0
          · have e0 : (x == 0) = true := by rw [beq_iff_eq]; exact a3
            by_cases a4 : p ≤ 0
            · have HN := Lib.hid (Hno.out (by unfold numAt; rw [e0, decide_eq_true a4]; simp))
              clear a3
              go_wp2
              go_ret
              exact ⟨BoolIs.no HN.out, rfl⟩
            · have HS := Lib.hid (Hs.out (by unfold numAt; rw [decide_eq_false a4, decide_eq_true (show -1 ≤ x by omega), decide_eq_true (show x ≤ 1000000 by omega)]; simp))
              clear a3
              go_wp2
              go_light
              exact ⟨⟨k + 1, x, by omega, by go_num, rfl, Hla.out.symm, HS.out, trivial⟩, by simp [intOf]; omega⟩
          · have e0 : (x == 0) = false := by rw [beq_eq_false_iff_ne]; exact a3
            have HS := Lib.hid (Hs.out (by unfold numAt; rw [e0, decide_eq_true (show -1 ≤ x by omega), decide_eq_true (show x ≤ 1000000 by omega)]; simp))
            clear a3
            go_wp2
            go_light
            exact ⟨⟨k + 1, x, by omega, by go_num, rfl, Hla.out.symm, HS.out, trivial⟩, by simp [intOf]; omega⟩
    · obtain rfl : k = n := by omega
      go_wp2
      go_ret
      exact ⟨BoolIs.yes fun j hj hj2 => hto.out j hj (by have := Hlen.out; omega), rfl⟩

set_option maxHeartbeats 1600000 in
set_option maxRecDepth 8000 in
theorem rnumsOk_any (A : Option Addr) (n c : Nat) (l : List Int) (w : World) (hn : n ≤ 1000000) (hr : Rd w w.heap.size 1 A n (l.map (Value.int .i64))) :
    Calls Try.prog 29 #[.slice A n c] w fun e w' => BoolIs e (NumOk l) ∧ w = w' := by
  have hlen : l.length = n := by have := hr.len; simp at this; omega
  have Hlen := Lib.hid hlen
  have Hr := Lib.hid hr
  clear hlen hr
  go_enter Try.func29, Try.ntmps29
  go_wp2
  go_loopw [3] (fun i wr => ∃ k : Nat, k ≤ n ∧ i = .int .i64 k ∧ Hid (NumTo l k) ∧ w = wr) (fun i _ => n - (intOf i).toNat)
  case atStart => exact ⟨0, Nat.zero_le _, rfl, NumTo.zero l, rfl⟩
  case round =>
    obtain ⟨k, hk, rfl, hto, rfl⟩ := hrel
    by_cases hlt : k < n
    · obtain ⟨bq, off, rfl, hbb, hc⟩ := Hr.out.pos (by omega)
      have hk1 : k < l.length := by have := Hlen.out; omega
      have hcell := hc k (.int .i64 l[k]) (by simp [hk1])
      have Hno := Lib.hid (fun h => NumOk.not (l := l) hk1 h)
      have Hs := Lib.hid (fun h => hto.out.succ hk1 h)
      obtain ⟨x, hx⟩ : ∃ x, x = l[k] := ⟨_, rfl⟩
      rw [← hx] at hcell Hno Hs
      clear hx hto
      by_cases a1 : x < -1
      · have HN := Lib.hid (Hno.out (by unfold numAt; rw [decide_eq_false (by omega)]; rfl))
        clear hc
        go_wp2
        go_ret
        exact ⟨BoolIs.no HN.out, rfl⟩
      · by_cases a2 : 1000000 < x
        · have HN := Lib.hid (Hno.out (by unfold numAt; rw [decide_eq_false (show ¬ x ≤ 1000000 by omega)]; simp))
          clear hc
          go_wp2
          go_ret
          exact ⟨BoolIs.no HN.out, rfl⟩
        · by_cases a3 : x = 0
          · have e0 : (x == 0) = true := by rw [beq_iff_eq]; exact a3
            by_cases hk0 : k = 0
            · have hki : ((k : Int) == 0) = true := by rw [beq_iff_eq]; omega
              have HN := Lib.hid (Hno.out (by unfold numAt; rw [e0, decide_eq_true (show lastOf (l.take k) ≤ 0 by rw [hk0, List.take_zero, lastOf_nil]; omega)]; simp))
              clear a3 hc hk0
              go_wp2
              go_ret
              exact ⟨BoolIs.no HN.out, rfl⟩
            · obtain ⟨m, rfl⟩ : ∃ m, k = m + 1 := ⟨k - 1, by omega⟩
              have hcp := hc m (.int .i64 l[m]) (by rw [List.getElem?_map, List.getElem?_eq_getElem (by omega)]; rfl)
              have hki : (((m + 1 : Nat) : Int) == 0) = false := by rw [beq_eq_false_iff_ne]; omega
              rw [last_take l m (by omega)] at Hno Hs
              obtain ⟨p, hp⟩ : ∃ p, p = l[m] := ⟨_, rfl⟩
              rw [← hp] at hcp Hno Hs
              clear hp hc
              by_cases a4 : p ≤ 0
              · have HN := Lib.hid (Hno.out (by unfold numAt; rw [e0, decide_eq_true a4]; simp))
                clear a3
                go_wp2
                go_ret
                exact ⟨BoolIs.no HN.out, rfl⟩
              · have HS := Lib.hid (Hs.out (by unfold numAt; rw [decide_eq_false a4, decide_eq_true (show -1 ≤ x by omega), decide_eq_true (show x ≤ 1000000 by omega)]; simp))
                clear a3
                go_wp2
                go_light
                exact ⟨⟨m + 1 + 1, by omega, by go_num, HS.out, trivial⟩, by simp [intOf]; omega⟩
          · have e0 : (x == 0) = false := by rw [beq_eq_false_iff_ne]; exact a3
            have HS := Lib.hid (Hs.out (by unfold numAt; rw [e0, decide_eq_true (show -1 ≤ x by omega), decide_eq_true (show x ≤ 1000000 by omega)]; simp))
            clear a3 hc
            go_wp2
            go_light
            exact ⟨⟨k + 1, by omega, by go_num, HS.out, trivial⟩, by simp [intOf]; omega⟩
    · obtain rfl : k = n := by omega
      go_wp2
      go_ret
      exact ⟨BoolIs.yes fun j hj hj2 => hto.out j hj (by have := Hlen.out; omega), rfl⟩
end Go.Proofs.Ytjdomdeejibnmaa.Tok
