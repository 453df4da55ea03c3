/- slices.Equal where both slices hold the same. -/
import Derived.Test.YtjdomdeejibnmaaRows
import Derived.Test.YtjdomdeejibnmaaMem
import Derived.WalkKit
import Derived.ProofKit
import Derived.BigQuiet
import Derived.Deep.QuietTactic
import Derived.WalkSpells
import Derived.WalkLawsBesides
import Derived.Outline
import Derived.Deep.Light
namespace Go.Proofs.Ytjdomdeejibnmaa.Tok
open Go.RowKit Go.Proofs.Ytjdomdeejibnmaa

theorem eqStr_same (A A' : Option Addr) (n c d B B' : Nat) (ss : List ByteArray) (w : World) (hn : n ≤ 140737488355328)
    (h1 : Rd w B 1 A n (ss.map Value.string)) (h2 : Rd w B' 1 A' n (ss.map Value.string)) :
    Calls Try.prog 15 #[.slice A n c, .slice A' n d] w fun e w' => e = .returned (.bool true) ∧ ∃ q, w' = w.drewN q := by
  rcases Nat.eq_zero_or_pos n with rfl | hpos
  · clear h1 h2
    go_enter Try.func15, Try.ntmps15
    go_wp2
    go_loop [13] (fun i => i = .int .i64 0) (fun i => 0)
    case atStart => rfl
    case round =>
      subst hrel
      go_wp2
      go_ret
      exact ⟨rfl, 0, rfl⟩
  · obtain ⟨b, off, rfl, hb, hc⟩ := h1.pos hpos
    obtain ⟨b', off', rfl, hb', hc'⟩ := h2.pos hpos
    have hlen := Lib.hid h1.len
    clear h1 h2
    have Hc := Lib.hid hc
    have Hc' := Lib.hid hc'
    clear hc hc'
    go_enter Try.func15, Try.ntmps15
    go_wp2
    go_loopw [13] (fun i wr => ∃ k q : Nat, k ≤ n ∧ i = .int .i64 k ∧ wr = w.drewN q) (fun i _ => n - (intOf i).toNat)
    case atStart => exact ⟨0, 0, by omega, rfl, rfl⟩
    case round =>
      obtain ⟨k, q, hk, rfl, rfl⟩ := hrel
      by_cases hlt : k < n
      · have hk1 : k < ss.length := by have := hlen.out; simp at this; omega
        have hg : (ss.map Value.string)[k]? = some (.string ss[k]) := by simp [hk1]
        have hcell := Hc.out k _ hg
        have hcell' := Hc'.out k _ hg
        clear hg
        go_wp2
        go_quiet (fail)
        go_wp2
        go_light
        refine ⟨⟨k + 1, _, by omega, by go_num, rfl⟩, by simp [intOf]; omega⟩
      · obtain rfl : k = n := by omega
        go_wp2
        go_ret
        exact ⟨rfl, q, rfl⟩

/-- A token as its two cells. -/
def tokV (t : ByteArray × Nat) : List Value := [.string t.1, .int .i64 (t.2 : Nat)]
theorem flat2 {α : Type} (f : α → List Value) (hf : ∀ x, (f x).length = 2) : ∀ (l : List α) (k i : Nat) (h : k < l.length), i < 2 → (l.flatMap f)[k * 2 + i]? = (f l[k])[i]?
  | [], k, i, h, _ => absurd h (by simp)
  | x :: l, 0, i, _, hi => by
    rw [List.flatMap_cons, List.getElem?_append_left (by rw [hf]; omega)]
    simp
  | x :: l, k + 1, i, h, hi => by
    rw [List.flatMap_cons, List.getElem?_append_right (by rw [hf]; omega), hf, show (k + 1) * 2 + i - 2 = k * 2 + i from by omega]
    exact flat2 f hf l k i (by simpa using h) hi
theorem flat2_len {α : Type} (f : α → List Value) (hf : ∀ x, (f x).length = 2) (l : List α) : (l.flatMap f).length = l.length * 2 := by
  induction l with
  | nil => rfl
  | cons x l ih => rw [List.flatMap_cons, List.length_append, hf, ih, List.length_cons]; omega
theorem tokV_len (t : ByteArray × Nat) : (tokV t).length = 2 := rfl

end Go.Proofs.Ytjdomdeejibnmaa.Tok
