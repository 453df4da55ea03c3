/- The first place of a word in a list, and whether a list begins as a compressed proof does, both. -/
import Derived.Test.YtjdomdeejibnmaaAppend
import Derived.Test.YtjdomdeejibnmaaRefScan
namespace Go.Proofs.Ytjdomdeejibnmaa.Tok
open Go.RowKit Go.Proofs.Ytjdomdeejibnmaa

theorem str_ne {x s : ByteArray} (h : x ≠ s) : (x.toList == s.toList) = false := by
  rw [beq_eq_false_iff_ne]
  intro he
  rw [ByteArray.toList_eq, ByteArray.toList_eq] at he
  exact h (ByteArray.ext (Array.toList_inj.1 he))
def FirstAt (ss : List ByteArray) (x : ByteArray) (k : Nat) : Prop := ∃ h : k < ss.length, ss[k] = x ∧ x ∉ ss.take k
theorem FirstAt.unique {ss : List ByteArray} {x : ByteArray} {j k : Nat} (h : FirstAt ss x j) (h' : FirstAt ss x k) : j = k := by
  obtain ⟨a, b, c⟩ := h
  obtain ⟨a', b', c'⟩ := h'
  rcases Nat.lt_trichotomy j k with hl | hl | hl
  · exact absurd (show x ∈ ss.take k by rw [← b, List.mem_take_iff_getElem]; exact ⟨j, by omega, rfl⟩) c'
  · exact hl
  · exact absurd (show x ∈ ss.take j by rw [← b', List.mem_take_iff_getElem]; exact ⟨k, by omega, rfl⟩) c
theorem FirstAt.mem {ss : List ByteArray} {x : ByteArray} {k : Nat} (h : FirstAt ss x k) : x ∈ ss := by
  obtain ⟨a, b, _⟩ := h
  rw [← b]
  exact List.getElem_mem a

set_option maxHeartbeats 800000 in
theorem sindex_any (A : Option Addr) (n c : Nat) (ss : List ByteArray) (x : ByteArray) (w : World) (hn : n ≤ 1000000) (hr : Rd w w.heap.size 1 A n (ss.map Value.string)) :
    Calls Try.prog 34 #[.slice A n c, .string x] w fun e w' => ((∃ k : Nat, e = .returned (.int .i64 k) ∧ FirstAt ss x k) ∨ (e = .returned (.int .i64 (-1)) ∧ x ∉ ss)) ∧ w = w' := by
  have hlen : ss.length = n := by have := hr.len; simp at this; omega
  have Hlen := Lib.hid hlen
  have Hr := Lib.hid hr
  clear hlen hr
  go_enter Try.func34, Try.ntmps34
  go_wp2
  go_loopw [8] (fun i wr => ∃ k : Nat, k ≤ n ∧ i = .int .i64 k ∧ Hid (x ∉ ss.take k) ∧ w = wr) (fun i _ => n - (intOf i).toNat)
  case atStart => exact ⟨0, Nat.zero_le _, rfl, by show _ ∉ _; simp, rfl⟩
  case round =>
    obtain ⟨k, hk, rfl, hno, rfl⟩ := hrel
    by_cases hlt : k < n
    · obtain ⟨bq, off, rfl, hbb, hc⟩ := Hr.out.pos (by omega)
      have hk1 : k < ss.length := by have := Hlen.out; omega
      have hcell := hc k (.string ss[k]) (by simp [hk1])
      have Hfi := Lib.hid (show ss[k] = x → FirstAt ss x k from fun h => ⟨hk1, h, hno.out⟩)
      have Hnx := Lib.hid (show ss.take (k + 1) = ss.take k ++ [ss[k]] from List.take_succ_eq_append_getElem hk1)
      obtain ⟨s, hs⟩ : ∃ s, s = ss[k] := ⟨_, rfl⟩
      rw [← hs] at hcell Hfi Hnx
      clear hs hc
      by_cases he : s = x
      · have HF := Lib.hid (Hfi.out he)
        subst he
        go_wp2
        go_ret
        exact ⟨.inl ⟨k, rfl, HF.out⟩, rfl⟩
      · have e1 : (x.toList == s.toList) = false := str_ne fun h => he h.symm
        have Hn2 := Lib.hid (show x ∉ ss.take (k + 1) by rw [Hnx.out]; intro h; rcases List.mem_append.1 h with h | h; exact hno.out h; simp at h; exact he h.symm)
        clear he
        go_wp2
        go_light
        exact ⟨⟨k + 1, by omega, by go_num, Hn2.out, trivial⟩, by simp [intOf]; omega⟩
    · obtain rfl : k = n := by omega
      have Hno := Lib.hid (show x ∉ ss by have := hno.out; rw [List.take_of_length_le (by have := Hlen.out; omega)] at this; exact this)
      go_wp2
      go_ret
      exact ⟨.inr ⟨rfl, Hno.out⟩, rfl⟩

/-- The first word is an opening bracket. -/
def isB (ss : List ByteArray) : Bool := match ss with
  | [] => false
  | s :: _ => s.toList == [40]
theorem is_any (A : Option Addr) (n c : Nat) (ss : List ByteArray) (w : World) (hn : n ≤ 1000000) (hr : Rd w w.heap.size 1 A n (ss.map Value.string)) :
    Calls Try.prog 12 #[.slice A n c] w fun e w' => e = .returned (.bool (isB ss)) ∧ w = w' := by
  have hlen : ss.length = n := by have := hr.len; simp at this; omega
  cases ss with
  | nil =>
    obtain rfl : n = 0 := by simpa using hlen.symm
    clear hr hlen
    go_enter Try.func12, Try.ntmps12
    go_wp2
    go_ret
    exact ⟨rfl, rfl⟩
  | cons s r =>
    have hpos : 0 < n := by simp at hlen; omega
    obtain ⟨b, off, rfl, hbb, hc⟩ := hr.pos hpos
    have hcell : w.cell? ⟨b, off, none⟩ = some (.string s) := hc 0 _ rfl
    clear hc hr hlen
    cases h : (s.toList == [40])
    all_goals
      have Hb := Lib.hid (show isB (s :: r) = _ from h)
      go_enter Try.func12, Try.ntmps12
      go_wp2
      go_ret
      exact ⟨retb Hb.out.symm, rfl⟩
theorem ris_any (A : Option Addr) (n c : Nat) (ss : List ByteArray) (w : World) (hn : n ≤ 1000000) (hr : Rd w w.heap.size 1 A n (ss.map Value.string)) :
    Calls Try.prog 13 #[.slice A n c] w fun e w' => e = .returned (.bool (isB ss)) ∧ w = w' := by
  have hlen : ss.length = n := by have := hr.len; simp at this; omega
  cases ss with
  | nil =>
    obtain rfl : n = 0 := by simpa using hlen.symm
    clear hr hlen
    go_enter Try.func13, Try.ntmps13
    go_wp2
    go_ret
    exact ⟨rfl, rfl⟩
  | cons s r =>
    have hpos : 0 < n := by simp at hlen; omega
    obtain ⟨b, off, rfl, hbb, hc⟩ := hr.pos hpos
    have hcell : w.cell? ⟨b, off, none⟩ = some (.string s) := hc 0 _ rfl
    clear hc hr hlen
    cases h : (s.toList == [40])
    all_goals
      have Hb := Lib.hid (show isB (s :: r) = _ from h)
      go_enter Try.func13, Try.ntmps13
      go_wp2
      go_ret
      exact ⟨retb Hb.out.symm, rfl⟩
end Go.Proofs.Ytjdomdeejibnmaa.Tok
