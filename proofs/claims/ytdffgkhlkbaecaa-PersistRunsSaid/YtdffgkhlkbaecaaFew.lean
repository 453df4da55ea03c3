/- Whether the steps are few. -/
import Derived.Test.YtdffgkhlkbaecaaProg
import Derived.Test.YtdffgkhlkbaecaaTreeMath
import Derived.ProofKit
import Derived.Outline
import Derived.Deep.Light
import Derived.Deep.QuietTactic
import Derived.BigQuiet
import Derived.WalkLawsBesides
import Derived.WalkSpells
import Derived.IntWalk
namespace Go.Proofs.Ytdffgkhlkbaecaa.Tok
open Go.RowKit Go.Proofs.Ytdffgkhlkbaecaa

/-- A step: its kind, its two trees, its key, its value; five cells. -/
structure OpT where
  kind : Nat
  tree : Nat
  other : Nat
  key : ByteArray
  val : Int
def opV (o : OpT) : List Value := [.int .u8 o.kind, .int .u8 o.tree, .int .u8 o.other, .string o.key, .int .i64 o.val]
theorem flatN {α : Type} (N : Nat) (f : α → List Value) (hf : ∀ x, (f x).length = N) : ∀ (l : List α) (k i : Nat) (h : k < l.length), i < N → (l.flatMap f)[k * N + i]? = (f l[k])[i]?
  | [], _, _, h, _ => by simp at h
  | x :: l, 0, i, _, hi => by
    rw [List.flatMap_cons, List.getElem?_append_left (by rw [hf]; omega)]
    simp
  | x :: l, k + 1, i, h, hi => by
    have hx := hf x
    have e : (k + 1) * N = k * N + N := Nat.succ_mul k N
    rw [List.flatMap_cons, List.getElem?_append_right (by omega), hx, show (k + 1) * N + i - N = k * N + i by omega, flatN N f hf l k i (by simpa using h) hi]
    simp
theorem flatN_len {α : Type} (N : Nat) (f : α → List Value) (hf : ∀ x, (f x).length = N) (l : List α) : (l.flatMap f).length = l.length * N := by
  induction l with
  | nil => simp
  | cons x l ih => rw [List.flatMap_cons, List.length_append, hf, ih, List.length_cons, Nat.succ_mul]; omega

def SomeBool (e : Ending) : Prop := ∃ b, e = .returned (.bool b)
set_option maxHeartbeats 800000 in
theorem few1_any (o : OpT) (w : World) : Calls Try.prog 15 #[.agg #[.int .u8 o.kind, .int .u8 o.tree, .int .u8 o.other, .string o.key, .int .i64 o.val]] w fun e w' => SomeBool e ∧ Below w.heap.size w w' := by
  obtain ⟨k, t, q, s, v⟩ := o
  simp only
  by_cases h : 20 < s.size
  all_goals
    go_enter Try.func15, Try.ntmps15
    go_wp2
    go_ret
    exact ⟨⟨_, rfl⟩, (Below.refl _ _).alloc (Nat.le_refl _) _⟩

set_option maxHeartbeats 1600000 in
set_option maxRecDepth 8000 in
theorem indexOp_any (H : Option Addr) (m hc : Nat) (os : List OpT) (w : World) (hm : m ≤ 1000000) (hh : Rd w w.heap.size 5 H m (os.flatMap opV)) :
    Calls Try.prog 43 #[.slice H m hc, .func (.func 15) #[] #[]] w fun e w' => (∃ i : Int, e = .returned (.int .i64 i)) ∧ Below w.heap.size w w' := by
  have hlen : os.length = m := by have := hh.len; rw [flatN_len 5 opV (fun _ => rfl)] at this; omega
  have Hlen := Lib.hid hlen
  have Hh := Lib.hid hh
  clear hlen hh
  go_enter Try.func43, Try.ntmps43
  go_wp2
  go_loopw [8] (fun i wr => ∃ k : Nat, k ≤ m ∧ i = .int .i64 k ∧ Below w.heap.size w wr) (fun i _ => m - (intOf i).toNat)
  case atStart => exact ⟨0, Nat.zero_le _, rfl, Below.refl _ _⟩
  case round =>
    obtain ⟨k, hk, rfl, hb⟩ := hrel
    by_cases hlt : k < m
    · obtain ⟨b, off, rfl, hbb, hcc⟩ := Hh.out.pos (by omega)
      have hk1 : k < os.length := by have := Hlen.out; omega
      have hcell0 := (hb.cell (p := ⟨b, off + k * 5, none⟩) hbb).trans (hcc (k * 5) _ ((flatN 5 opV (fun _ => rfl) os k 0 hk1 (by omega)).trans rfl))
      have hcell1 := (hb.cell (p := ⟨b, off + (k * 5 + 1), none⟩) hbb).trans (hcc (k * 5 + 1) _ ((flatN 5 opV (fun _ => rfl) os k 1 hk1 (by omega)).trans rfl))
      have hcell2 := (hb.cell (p := ⟨b, off + (k * 5 + 2), none⟩) hbb).trans (hcc (k * 5 + 2) _ ((flatN 5 opV (fun _ => rfl) os k 2 hk1 (by omega)).trans rfl))
      have hcell3 := (hb.cell (p := ⟨b, off + (k * 5 + 3), none⟩) hbb).trans (hcc (k * 5 + 3) _ ((flatN 5 opV (fun _ => rfl) os k 3 hk1 (by omega)).trans rfl))
      have hcell4 := (hb.cell (p := ⟨b, off + (k * 5 + 4), none⟩) hbb).trans (hcc (k * 5 + 4) _ ((flatN 5 opV (fun _ => rfl) os k 4 hk1 (by omega)).trans rfl))
      rw [← Nat.add_assoc] at hcell1 hcell2 hcell3 hcell4
      obtain ⟨x, hx⟩ : ∃ x, x = os[k] := ⟨_, rfl⟩
      rw [← hx] at hcell0 hcell1 hcell2 hcell3 hcell4
      clear hx hcc
      have HC := Lib.hid (fun wr => few1_any x wr)
      obtain ⟨xk, xt, xq, xs, xv⟩ := x
      simp only at hcell0 hcell1 hcell2 hcell3 hcell4 HC
      go_wp2_with fail
      refine (HC.out _).mono ?_
      rintro e w' ⟨⟨bb, rfl⟩, hb2⟩
      cases bb
      · go_wp2
        go_light
        exact ⟨⟨k + 1, by omega, by go_num, hb.trans (hb2.mono hb.size)⟩, by simp [intOf]; omega⟩
      · go_wp2
        go_ret
        exact ⟨⟨_, rfl⟩, hb.trans (hb2.mono hb.size)⟩
    · obtain rfl : k = m := by omega
      go_wp2
      go_ret
      exact ⟨⟨_, rfl⟩, hb⟩

set_option maxHeartbeats 800000 in
theorem containsOp_any (H : Option Addr) (m hc : Nat) (os : List OpT) (w : World) (hm : m ≤ 1000000) (hh : Rd w w.heap.size 5 H m (os.flatMap opV)) :
    Calls Try.prog 14 #[.slice H m hc, .func (.func 15) #[] #[]] w fun e w' => SomeBool e ∧ Below w.heap.size w w' := by
  have HC := Lib.hid (indexOp_any H m hc os w hm hh)
  clear hh
  go_enter Try.func14, Try.ntmps14
  go_wp2_with fail
  refine (HC.out).mono ?_
  rintro e w' ⟨⟨i, rfl⟩, hb⟩
  by_cases hi : 0 ≤ i
  all_goals
    go_wp2
    go_ret
    exact ⟨⟨_, rfl⟩, hb⟩

set_option maxHeartbeats 800000 in
theorem few_any (H : Option Addr) (m hc : Nat) (os : List OpT) (w : World) (hh : m ≤ 120 → Rd w w.heap.size 5 H m (os.flatMap opV)) :
    Calls Try.prog 5 #[.slice H m hc] w fun e w' => (∃ b, e = .returned (.bool b) ∧ (b = true → m ≤ 120)) ∧ Below w.heap.size w w' := by
  by_cases hlt : m ≤ 120
  · have HC := Lib.hid (containsOp_any H m hc os w (by omega) (hh hlt))
    clear hh
    have hd : decide ((m : Int) ≤ 120) = true := decide_eq_true (by omega)
    go_enter Try.func5, Try.ntmps5
    go_wp2_with fail
    refine (HC.out).mono ?_
    rintro e w' ⟨⟨b, rfl⟩, hb⟩
    cases b
    all_goals
      go_wp2
      go_ret
      exact ⟨⟨_, rfl, fun _ => hlt⟩, hb⟩
  · clear hh
    have hd : decide ((m : Int) ≤ 120) = false := decide_eq_false (by omega)
    go_enter Try.func5, Try.ntmps5
    go_wp2
    go_ret
    exact ⟨⟨_, rfl, fun h => by simp at h⟩, Below.refl _ _⟩
end Go.Proofs.Ytdffgkhlkbaecaa.Tok
