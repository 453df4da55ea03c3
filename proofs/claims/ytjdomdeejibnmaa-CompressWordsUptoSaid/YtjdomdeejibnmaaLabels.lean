/- The program's test of a code's labels. -/
import Derived.Test.YtjdomdeejibnmaaStrSet
import Derived.Test.YtjdomdeejibnmaaBoolIs
import Derived.Test.YtjdomdeejibnmaaKind
import Derived.Test.YtjdomdeejibnmaaAppend
namespace Go.Proofs.Ytjdomdeejibnmaa.Tok
open Go.RowKit Go.Maps Go.Proofs.Ytjdomdeejibnmaa

/-- Each is a label, and none stands twice. -/
def LabsTo (ss : List ByteArray) (m : Nat) : Prop := ∀ k, (h : k < ss.length) → k < m → labB ss[k] = true ∧ ss[k] ∉ ss.take k
def LabsOk (ss : List ByteArray) : Prop := LabsTo ss ss.length
theorem LabsTo.zero (ss : List ByteArray) : LabsTo ss 0 := fun _ _ h => absurd h (by omega)
theorem LabsTo.succ {ss : List ByteArray} {m : Nat} (h : LabsTo ss m) (hm : m < ss.length) (h1 : labB ss[m] = true) (h2 : ss[m] ∉ ss.take m) : LabsTo ss (m + 1) := fun k hk hlt => by
  rcases (show k < m ∨ k = m by omega) with h3 | rfl
  · exact h k hk h3
  · exact ⟨h1, h2⟩
theorem LabsOk.not1 {ss : List ByteArray} {m : Nat} (hm : m < ss.length) (h1 : labB ss[m] = false) : ¬ LabsOk ss := fun h => by
  have := (h m hm hm).1
  rw [h1] at this
  cases this
theorem LabsOk.not2 {ss : List ByteArray} {m : Nat} (hm : m < ss.length) (h1 : ss[m] ∈ ss.take m) : ¬ LabsOk ss := fun h => (h m hm hm).2 h1
theorem zeroBool (w : World) : (zeroValue 4).run Try.prog w = .ok (.bool false) w := by kernel_rfl

open Classical in
set_option maxHeartbeats 1600000 in
set_option maxRecDepth 8000 in
theorem areLabels_any (A : Option Addr) (n c : Nat) (ss : List ByteArray) (w : World) (hn : n ≤ 1000000) (hsz : ∀ s ∈ ss, s.size ≤ 9223372036854775807) (hr : Rd w w.heap.size 1 A n (ss.map Value.string)) :
    Calls Try.prog 25 #[.slice A n c] w fun e w' => BoolIs e (LabsOk ss) ∧ Below w.heap.size w w' := by
  have hlen : ss.length = n := by have := hr.len; simp at this; omega
  have Hlen := Lib.hid hlen
  have Hr := Lib.hid hr
  have Hsz := Lib.hid hsz
  clear hlen hr hsz
  have hmm := @run_makeMap Try.prog
  go_enter Try.func25, Try.ntmps25
  go_wp2
  go_loopw [9] (fun i wr => ∃ k : Nat, k ≤ n ∧ i = .int .i64 k ∧ Hid (LabsTo ss k) ∧ wr.ownsMap Try.prog 9 (plainElem Try.prog 4) w.heap.size k (bsetD (ss.take k)) ∧ Below w.heap.size w wr) (fun i _ => n - (intOf i).toNat)
  case atStart => exact ⟨0, Nat.zero_le _, rfl, LabsTo.zero ss, World.ownsMap_made _ _ _ _, (Below.refl _ _).alloc (Nat.le_refl _) _⟩
  case round =>
    obtain ⟨k, hk, rfl, hto, hown, hb⟩ := hrel
    by_cases hlt : k < n
    · obtain ⟨bq, off, rfl, hbb, hc⟩ := Hr.out.pos (by omega)
      have hk1 : k < ss.length := by have := Hlen.out; omega
      have hcell := (hb.cell (p := ⟨bq, off + k, none⟩) hbb).trans (hc k (.string ss[k]) (by simp [hk1]))
      have hs48 : (ss[k]).size ≤ 9223372036854775807 := Hsz.out _ (List.getElem_mem hk1)
      have Hn1 := Lib.hid (fun h => LabsOk.not1 (ss := ss) hk1 h)
      have Hn2 := Lib.hid (fun h => LabsOk.not2 (ss := ss) hk1 h)
      have Hs := Lib.hid (fun h1 h2 => hto.out.succ hk1 h1 h2)
      have Hbs := Lib.hid (show bsetD (ss.take (k + 1)) = (bsetD (ss.take k)).put (.string (ss[k]).data.toList) (.lit (.bool true)) by rw [List.take_succ_eq_append_getElem hk1, bsetD_snoc])
      obtain ⟨s, hse⟩ : ∃ s, s = ss[k] := ⟨_, rfl⟩
      rw [← hse] at hcell hs48 Hn1 Hn2 Hs Hbs
      clear hse hc hto
      have hkey : keyOf Try.prog 9 (.string s) = some (.string s.data.toList) := Go.WideMaps.keyOf_string_mk Try.underlying9 (by unfold maxLen; omega)
      have Hkey := Lib.hid hkey
      clear hkey
      cases h1 : labB s
      · have H1 := Lib.hid (show (lenB s && allB (onCls qL) s) = false from h1)
        have Hno := Lib.hid (Hn1.out h1)
        clear h1
        go_wp2_with (go_at_call 38; refine (IsLabel_any s hs48 _).mono ?_; rintro e w' ⟨rfl, rfl⟩; rw [H1.out])
        go_ret
        exact ⟨BoolIs.no Hno.out, hb⟩
      · have H1 := Lib.hid (show (lenB s && allB (onCls qL) s) = true from h1)
        by_cases h2 : s ∈ ss.take k
        · have Hno := Lib.hid (Hn2.out h2)
          have Hat := Lib.hid (show (bsetD (ss.take k)).atKey (.string s.data.toList) (.lit (.bool false)) = .lit (.bool true) by rw [bset_at, decide_eq_true h2])
          clear h1 h2
          go_wp2_with (first
            | (go_at_call 38; refine (IsLabel_any s hs48 _).mono ?_; rintro e w' ⟨rfl, rfl⟩; rw [H1.out])
            | (at_lookup; refine wpList_lookup_bool rfl _ _ 76 rfl (string_keyed Try.underlying9) Try.underlying76 Try.underlying4 (zeroBool _) rfl hown _ _ rfl Hkey.out true Hat.out ?_))
          go_ret
          exact ⟨BoolIs.no Hno.out, hb⟩
        · have Hat := Lib.hid (show (bsetD (ss.take k)).atKey (.string s.data.toList) (.lit (.bool false)) = .lit (.bool false) by rw [bset_at, decide_eq_false h2])
          have Hto := Lib.hid (Hs.out h1 h2)
          clear h1 h2
          go_wp2_with (first
            | (go_at_call 38; refine (IsLabel_any s hs48 _).mono ?_; rintro e w' ⟨rfl, rfl⟩; rw [H1.out])
            | (at_lookup; refine wpList_lookup_bool rfl _ _ 76 rfl (string_keyed Try.underlying9) Try.underlying76 Try.underlying4 (zeroBool _) rfl hown _ _ rfl Hkey.out false Hat.out ?_)
            | (at_mapUpdate; refine wpList_mapUpdate_own _ rfl _ _ _ 76 rfl 9 4 (string_keyed Try.underlying9) Try.underlying76 _ w.heap.size k _ rfl hown (by unfold maxLen; omega) _ _ _ rfl rfl Hkey.out _ [] (plainElem_bool Try.underlying4 true) ?_; intro w1 hown1 hgrow1))
          go_light
          exact ⟨⟨k + 1, by omega, by go_num, Hto.out, by rw [Hbs.out]; exact hown1, hb.grown hgrow1 hb.size (fun q hq => by cases hq; exact Nat.le_refl _)⟩, by simp [intOf]; omega⟩
    · obtain rfl : k = n := by omega
      go_wp2
      go_ret
      exact ⟨BoolIs.yes fun j hj hj2 => hto.out j hj (by have := Hlen.out; omega), hb⟩
end Go.Proofs.Ytjdomdeejibnmaa.Tok
