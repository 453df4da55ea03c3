/- The reference's test of a code's labels. -/
import Derived.Test.YtjdomdeejibnmaaLabels
import Derived.Test.YtjdomdeejibnmaaIndex
import Derived.Test.YtjdomdeejibnmaaRefNames
import Derived.Deep.QuietTactic
import Derived.BigQuiet
namespace Go.Proofs.Ytjdomdeejibnmaa.Tok
open Go.RowKit Go.Proofs.Ytjdomdeejibnmaa

open Classical in
set_option maxHeartbeats 800000 in
theorem rhas5_any (A : Option Addr) (n c : Nat) (ss : List ByteArray) (x : ByteArray) (w : World) (hn : n ≤ 1000000) (hr : Rd w w.heap.size 1 A n (ss.map Value.string)) :
    Calls Try.prog 37 #[.slice A n c, .string x] w fun e w' => e = .returned (.bool (decide (x ∈ ss))) ∧ w = w' := by
  have hlen : ss.length = n := by have := hr.len; simp at this; omega
  have Hlen := Lib.hid hlen
  have Hr := Lib.hid hr
  clear hlen hr
  go_enter Try.func37, Try.ntmps37
  go_wp2
  go_loopw [5] (fun i wr => ∃ k : Nat, k ≤ n ∧ i = .int .i64 k ∧ Hid (x ∉ ss.take k) ∧ w = wr) (fun i _ => n - (intOf i).toNat)
  case atStart => exact ⟨0, Nat.zero_le _, rfl, by show _ ∉ _; simp, rfl⟩
  case round =>
    obtain ⟨k, hk, rfl, hno, rfl⟩ := hrel
    by_cases hlt : k < n
    · obtain ⟨bq, off, rfl, hbb, hc⟩ := Hr.out.pos (by omega)
      have hk1 : k < ss.length := by have := Hlen.out; omega
      have hcell := hc k (.string ss[k]) (by simp [hk1])
      have Hin := Lib.hid (List.getElem_mem hk1)
      have Hnx := Lib.hid (show ss.take (k + 1) = ss.take k ++ [ss[k]] from List.take_succ_eq_append_getElem hk1)
      obtain ⟨s, hs⟩ : ∃ s, s = ss[k] := ⟨_, rfl⟩
      rw [← hs] at hcell Hin Hnx
      clear hs hc
      by_cases he : s = x
      · subst he
        have Hd := Lib.hid (decide_eq_true Hin.out)
        go_wp2
        go_ret
        exact ⟨retb Hd.out.symm, rfl⟩
      · have e1 : (s.toList == x.toList) = false := str_ne he
        have Hn2 := Lib.hid (show x ∉ ss.take (k + 1) by rw [Hnx.out]; intro h; rcases List.mem_append.1 h with h | h; exact hno.out h; simp at h; exact he h.symm)
        have he' := Lib.hid he
        clear he
        go_wp2
        go_light
        exact ⟨⟨k + 1, by omega, by go_num, Hn2.out, trivial⟩, by simp [intOf]; omega⟩
    · obtain rfl : k = n := by omega
      have Hd := Lib.hid (show decide (x ∈ ss) = false by have := hno.out; rw [List.take_of_length_le (by have := Hlen.out; omega)] at this; exact decide_eq_false this)
      go_wp2
      go_ret
      exact ⟨retb Hd.out.symm, rfl⟩

/-- A call that keeps every world of a drawing, where two drawings came before it. -/
theorem same_later {P : Program} {f : FuncId} {args : Array Value} {w : World} {v : Value} (H : ∀ m, Calls P f args (w.drewN m) fun e w' => e = .returned v ∧ w' = w.drewN m) (a n : Nat) :
    Calls P f args (w.drewN (a + n)) fun e w' => e = .returned v ∧ ∃ m, w' = w.drewN (a + m) :=
  (H (a + n)).mono fun _ _ h => ⟨h.1, n, h.2⟩

open Classical in
set_option maxHeartbeats 1600000 in
set_option maxRecDepth 8000 in
theorem rlabels_any (A : Option Addr) (n c : Nat) (ss : List ByteArray) (w : World) (hn : n ≤ 1000000) (hnc : n ≤ c) (hsz : ∀ s ∈ ss, s.size ≤ 9223372036854775807) (hr : Rd w w.heap.size 1 A n (ss.map Value.string)) :
    Calls Try.prog 23 #[.slice A n c] w fun e w' => BoolIs e (LabsOk ss) ∧ ∃ q, w' = w.drewN q := by
  have hlen : ss.length = n := by have := hr.len; simp at this; omega
  have Hlen := Lib.hid hlen
  have Hr := Lib.hid hr
  have Hsz := Lib.hid hsz
  clear hlen hr hsz
  go_enter Try.func23, Try.ntmps23
  go_wp2
  go_loopw [3] (fun i wr => ∃ k q : Nat, k ≤ n ∧ i = .int .i64 k ∧ Hid (LabsTo ss k) ∧ wr = w.drewN q) (fun i _ => n - (intOf i).toNat)
  case atStart => exact ⟨0, 0, Nat.zero_le _, rfl, LabsTo.zero ss, rfl⟩
  case round =>
    obtain ⟨k, q, hk, rfl, hto, rfl⟩ := hrel
    by_cases hlt : k < n
    · obtain ⟨bq, off, rfl, hbb, hc⟩ := Hr.out.pos (by omega)
      have hk1 : k < ss.length := by have := Hlen.out; omega
      have hkc : k ≤ c := by omega
      have hcell : w.cell? ⟨bq, off + k, none⟩ = some (.string ss[k]) := hc k (.string ss[k]) (by simp [hk1])
      have hs48 : (ss[k]).size ≤ 9223372036854775807 := Hsz.out _ (List.getElem_mem hk1)
      have Hn1 := Lib.hid (fun h => LabsOk.not1 (ss := ss) hk1 h)
      have Hn2 := Lib.hid (fun h => LabsOk.not2 (ss := ss) hk1 h)
      have Hs := Lib.hid (fun h1 h2 => hto.out.succ hk1 h1 h2)
      obtain ⟨s, hse⟩ : ∃ s, s = ss[k] := ⟨_, rfl⟩
      rw [← hse] at hcell hs48 Hn1 Hn2 Hs
      have Hsub : Hid (∀ m, Rd (w.drewN m) (w.drewN m).heap.size 1 (some ⟨bq, off, none⟩) k ((ss.take k).map Value.string)) := fun m =>
        ⟨by simp; omega, fun h0 => ⟨bq, off, rfl, hbb, fun j u hu => hc j u (by
          have hj : j < k := by have := (List.getElem?_eq_some_iff.1 hu).1; simp at this; omega
          rw [← hu, List.getElem?_map, List.getElem?_map, List.getElem?_take_of_lt hj])⟩⟩
      clear hse hc hto
      cases h1 : labB s
      · have Hc1 : Hid (∀ m, Calls Try.prog 36 #[.string s] (w.drewN m) fun e w' => e = .returned (.bool false) ∧ w' = w.drewN m) := fun m =>
          (rIsLabel_any s hs48 _).mono fun e w' ⟨he, hw⟩ => ⟨by rw [he, labR, h1], hw.symm⟩
        have Hno := Lib.hid (Hn1.out h1)
        clear h1
        go_wp2
        go_quiet ((go_at_call 36; first | exact same_later Hc1.out _ _ | exact Calls.quiet_of_same (Hc1.out _)))
        go_wp2
        go_ret
        exact ⟨BoolIs.no Hno.out, _, World.drewN_drewN _ _ _⟩
      · have Hc1 : Hid (∀ m, Calls Try.prog 36 #[.string s] (w.drewN m) fun e w' => e = .returned (.bool true) ∧ w' = w.drewN m) := fun m =>
          (rIsLabel_any s hs48 _).mono fun e w' ⟨he, hw⟩ => ⟨by rw [he, labR, h1], hw.symm⟩
        by_cases h2 : s ∈ ss.take k
        · have Hc2 : Hid (∀ m cc, Calls Try.prog 37 #[.slice (some ⟨bq, off, none⟩) k cc, .string s] (w.drewN m) fun e w' => e = .returned (.bool true) ∧ w' = w.drewN m) := fun m cc =>
            (rhas5_any _ k cc (ss.take k) s (w.drewN m) (by omega) (Hsub.out m)).mono fun e w' ⟨he, hw⟩ => ⟨by rw [he, decide_eq_true h2], hw.symm⟩
          have Hno := Lib.hid (Hn2.out h2)
          clear h1 h2
          go_wp2
          go_quiet (first | (go_at_call 36; first | exact same_later Hc1.out _ _ | exact Calls.quiet_of_same (Hc1.out _)) | (go_at_call 37; first | exact same_later (fun m => Hc2.out m _) _ _ | exact Calls.quiet_of_same (Hc2.out _ _)))
          go_wp2
          go_ret
          exact ⟨BoolIs.no Hno.out, _, World.drewN_drewN _ _ _⟩
        · have Hc2 : Hid (∀ m cc, Calls Try.prog 37 #[.slice (some ⟨bq, off, none⟩) k cc, .string s] (w.drewN m) fun e w' => e = .returned (.bool false) ∧ w' = w.drewN m) := fun m cc =>
            (rhas5_any _ k cc (ss.take k) s (w.drewN m) (by omega) (Hsub.out m)).mono fun e w' ⟨he, hw⟩ => ⟨by rw [he, decide_eq_false h2], hw.symm⟩
          have Hto := Lib.hid (Hs.out h1 h2)
          clear h1 h2
          go_wp2
          go_quiet (first | (go_at_call 36; first | exact same_later Hc1.out _ _ | exact Calls.quiet_of_same (Hc1.out _)) | (go_at_call 37; first | exact same_later (fun m => Hc2.out m _) _ _ | exact Calls.quiet_of_same (Hc2.out _ _)))
          go_wp2
          go_light
          exact ⟨⟨k + 1, _, by omega, by go_num, Hto.out, rfl⟩, by simp [intOf]; omega⟩
    · obtain rfl : k = n := by omega
      go_wp2
      go_ret
      exact ⟨BoolIs.yes fun j hj hj2 => hto.out j hj (by have := Hlen.out; omega), _, rfl⟩
end Go.Proofs.Ytjdomdeejibnmaa.Tok
