/- Contracts of a tree of strings: count, height, above. -/
import Derived.Test.YtdffgkhlkbaecaaProg
import Derived.Test.YtdffgkhlkbaecaaTreeMath
import Derived.ProofKit
import Derived.Outline
import Derived.Deep.Light
import Derived.StillTailTactics
import Derived.StillTactics
import Derived.WalkLawsBesides
import Derived.WalkSpells
import Derived.IntWalk
namespace Go.Proofs.Ytdffgkhlkbaecaa.Tok
open Go.RowKit Go.Proofs.Ytdffgkhlkbaecaa

theorem countS_any (v : Option Addr) (t : Tr ByteArray) (w : World) (h : Is Value.string 98 w v t) : Calls Try.prog 47 #[.pointer v] w fun e w' => e = .returned (.int .i64 (t.size : Nat)) ∧ w' = w := by
  cases t with
  | nil =>
    obtain rfl := Is.nil_iff.1 h
    clear h
    go_enter Try.func47, Try.ntmps47
    go_wp2
    go_ret
    exact ⟨rfl, rfl⟩
  | node k x l r =>
    obtain ⟨b, lv, rv, rfl, hb, c0, c1, c2, c3, c4, c5, hl, hr⟩ := h.node
    clear h hl hr c0 c1 c2 c3 c5
    obtain ⟨n, hn⟩ : ∃ n, n = (Tr.node k x l r).size := ⟨_, rfl⟩
    rw [← hn] at c4 ⊢
    clear hn
    go_enter Try.func47, Try.ntmps47
    go_wp2
    go_ret
    exact ⟨rfl, rfl⟩

theorem heightS_any (v : Option Addr) (t : Tr ByteArray) (w : World) (h : Is Value.string 98 w v t) : Calls Try.prog 58 #[.pointer v] w fun e w' => e = .returned (.int .i64 (t.height : Nat)) ∧ w' = w := by
  cases t with
  | nil =>
    obtain rfl := Is.nil_iff.1 h
    clear h
    go_enter Try.func58, Try.ntmps58
    go_wp2
    go_ret
    exact ⟨rfl, rfl⟩
  | node k x l r =>
    obtain ⟨b, lv, rv, rfl, hb, c0, c1, c2, c3, c4, c5, hl, hr⟩ := h.node
    clear h hl hr c0 c1 c2 c3 c4
    obtain ⟨n, hn⟩ : ∃ n, n = (Tr.node k x l r).height := ⟨_, rfl⟩
    rw [← hn] at c5 ⊢
    clear hn
    go_enter Try.func58, Try.ntmps58
    go_wp2
    go_ret
    exact ⟨rfl, rfl⟩

/-- A new tree, and nothing that was there turned. -/
def Makes {α : Type} (kv : α → Value) (T : TypeId) (w : World) (t : Tr α) (e : Ending) (w' : World) : Prop := ∃ p, e = .returned (.pointer p) ∧ Is kv T w' p t ∧ Below w.heap.size w w'

set_option maxHeartbeats 1600000 in
set_option maxRecDepth 8000 in
theorem aboveS_any (lv nv rv : Option Addr) (l r : Tr ByteArray) (k : ByteArray) (x : Int) (w : World) (hl : Is Value.string 98 w lv l) (hn : Hd w nv (.string k) x) (hr : Is Value.string 98 w rv r) (hs : l.size + r.size ≤ 1000000) :
    Calls Try.prog 60 #[.pointer lv, .pointer nv, .pointer rv] w (Makes Value.string 98 w (.node k x l r)) := by
  obtain ⟨b, rfl, hb, c0, c1⟩ := hn
  have hh1 := l.height_le
  have hh2 := r.height_le
  have Hl := Lib.hid hl
  have Hr := Lib.hid hr
  have HM := Lib.hid (Is.made (k := k) (x := x) hl.drew hr.drew)
  have Hcl := Lib.hid (countS_any lv l w.drew hl.drew)
  have Hcr := Lib.hid (countS_any rv r w.drew hr.drew)
  have Hhl := Lib.hid (heightS_any lv l w.drew hl.drew)
  have Hhr := Lib.hid (heightS_any rv r w.drew hr.drew)
  clear hl hr
  have Hsz := Lib.hid (show ((Tr.node k x l r).size : Nat) = l.size + 1 + r.size from rfl)
  have Hht := Lib.hid (show ((Tr.node k x l r).height : Nat) = max l.height r.height + 1 from rfl)
  rw [Hsz.out, Hht.out] at HM
  obtain ⟨sl, e1⟩ : ∃ n, n = l.size := ⟨_, rfl⟩
  obtain ⟨sr, e2⟩ : ∃ n, n = r.size := ⟨_, rfl⟩
  obtain ⟨hl, e3⟩ : ∃ n, n = l.height := ⟨_, rfl⟩
  obtain ⟨hr, e4⟩ : ∃ n, n = r.height := ⟨_, rfl⟩
  rw [← e1] at hs hh1 Hcl HM
  rw [← e2] at hs hh2 Hcr HM
  rw [← e3] at hh1 Hhl HM
  rw [← e4] at hh2 Hhr HM
  clear e1 e2 e3 e4 Hsz Hht
  obtain ⟨mx, hmx, hmx2⟩ : ∃ mx, max hl hr = mx ∧ mx ≤ 1000000 := ⟨_, rfl, by omega⟩
  rw [hmx] at HM
  have hcs : (hl < hr ∧ mx = hr) ∨ (hr ≤ hl ∧ mx = hl) := by omega
  clear hmx
  have hw1 : IntKind.i64.wrap ((sl : Int) + 1) = (sl : Int) + 1 := IntWalk.i64_in _ (by omega)
  have hw2 : IntKind.i64.wrap ((sl : Int) + 1 + sr) = ((sl + 1 + sr : Nat) : Int) := (IntWalk.i64_in _ (by omega)).trans (by omega)
  have hw3 : IntKind.i64.wrap ((mx : Int) + 1) = ((mx + 1 : Nat) : Int) := (IntWalk.i64_in _ (by omega)).trans (by omega)
  have HB : Hid (∀ w2, w2 = w.drew → Below w.heap.size w w2 ∧ w2.heap.size = w.heap.size) := fun w2 h => by subst h; exact ⟨(Below.refl _ _).drew, rfl⟩
  rcases hcs with ⟨hc, rfl⟩ | ⟨hc, rfl⟩
  case' inr => have hc' : ¬ mx < hr := by omega
  all_goals
    go_enter Try.func60, Try.ntmps60
    go_wp2
    refine wp_region_still_tail 23 (by kernel_rfl) (by kernel_rfl) ?_
    simp only [List.take_succ_cons, List.take_zero, List.drop_succ_cons, List.drop_zero]
    change wpStill _ _ w.drew (fun a' => wpList _ _ _ _ a' w.drew) _ _
    repeat still_step
    still_call (Hcl.out)
    repeat still_step
    still_call (Hcr.out)
    repeat still_step
    still_call (Hhl.out)
    repeat still_step
    still_call (Hhr.out)
    repeat still_step
    refine wpStill_nil ?_
    obtain ⟨w2, hw2'⟩ : ∃ w2, w2 = w.drew := ⟨_, rfl⟩
    obtain ⟨hb2, hz2⟩ := HB.out w2 hw2'
    rw [← hw2'] at HM ⊢
    clear hw2' hw1 hw2 hw3
    have hbe : ∀ o, Below w.heap.size w (w2.alloc o) := fun o => hb2.alloc (by omega) _
    have Hbe := Lib.hid hbe
    clear hbe hz2
    go_wp2
    go_ret
    exact ⟨_, rfl, by first | exact HM.out | (have h := HM.out; simpa using h), Hbe.out _⟩
end Go.Proofs.Ytdffgkhlkbaecaa.Tok
