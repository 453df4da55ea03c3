/- slices.Equal of two equal lists of entries; entries as a plain call. -/
import Derived.Test.YtdffgkhlkbaecaaEntries
import Derived.Test.YtdffgkhlkbaecaaStepMath
import Derived.Test.YtdffgkhlkbaecaaOpenOps
namespace Go.Proofs.Ytdffgkhlkbaecaa.Tok
open Go.RowKit Go.Proofs.Ytdffgkhlkbaecaa

theorem entries_any (p : Option Addr) (t : Tr ByteArray) (w : World) (hI : Is Value.string 98 w p t) (hts : t.size ≤ 1000000) :
    Calls Try.prog 32 #[.agg #[.pointer p]] w fun e w' => ∃ v, e = .returned v ∧ Hid (w'.ownsRow w.heap.size 73 2 v t.ents.length (t.ents.flatMap enV)) ∧ Below w.heap.size w w' :=
  (callsIn_wide (n := 5)).1 (entries_in 5 (Nat.le_refl _) p t w hI hts)
set_option maxHeartbeats 1600000 in
theorem eqEnt_same (A A' : Option Addr) (n c d B B' : Nat) (l : List (ByteArray × Int)) (w : World) (hn : n ≤ 1000000)
    (h1 : Rd w B 2 A n (l.flatMap enV)) (h2 : Rd w B' 2 A' n (l.flatMap enV)) :
    Calls Try.prog 31 #[.slice A n c, .slice A' n d] w fun e w' => e = .returned (.bool true) ∧ ∃ q, w' = w.drewN q := by
  rcases Nat.eq_zero_or_pos n with rfl | hpos
  · clear h1 h2
    go_enter Try.func31, Try.ntmps31
    go_wp2
    go_loop [13] (fun i => i = .int .i64 0) (fun i => 0)
    case atStart => rfl
    case round =>
      subst hrel
      go_wp2
      go_ret
      exact ⟨rfl, 0, rfl⟩
  · obtain ⟨b, off, rfl, hb, hc⟩ := h1.pos hpos
    obtain ⟨b', off', rfl, hb', hc'⟩ := h2.pos hpos
    have hlen := Lib.hid h1.len
    clear h1 h2
    have Hc := Lib.hid hc
    have Hc' := Lib.hid hc'
    clear hc hc'
    go_enter Try.func31, Try.ntmps31
    go_wp2
    go_loopw [13] (fun i wr => ∃ k q : Nat, k ≤ n ∧ i = .int .i64 k ∧ wr = w.drewN q) (fun i _ => n - (intOf i).toNat)
    case atStart => exact ⟨0, 0, by omega, rfl, rfl⟩
    case round =>
      obtain ⟨k, q, hk, rfl, rfl⟩ := hrel
      by_cases hlt : k < n
      · have hk1 : k < l.length := by have := hlen.out; rw [enV_len] at this; omega
        obtain ⟨hg0, hg1⟩ := en_at l k hk1
        obtain ⟨x, hx⟩ : ∃ x, x = l[k] := ⟨_, rfl⟩
        rw [← hx] at hg0 hg1
        clear hx
        obtain ⟨xk, xv⟩ := x
        have hcell0 := Hc.out _ _ hg0
        have hcell0' := Hc'.out _ _ hg0
        have hcell1 : w.cell? ⟨b, off + k * 2 + 1, none⟩ = _ := Hc.out _ _ hg1
        have hcell1' : w.cell? ⟨b', off' + k * 2 + 1, none⟩ = _ := Hc'.out _ _ hg1
        clear hg0 hg1
        go_wp2
        go_quiet (fail)
        go_wp2
        go_light
        refine ⟨⟨k + 1, _, by omega, by go_num, rfl⟩, by simp [intOf]; omega⟩
      · obtain rfl : k = n := by omega
        go_wp2
        go_ret
        exact ⟨rfl, q, rfl⟩
/-- The same of two rows that calls have made. -/
theorem eqOwn_same (v v' : Value) (b b' : Nat) (l : List (ByteArray × Int)) (w : World) (hn : l.length ≤ 1000000) (h1 : w.ownsRow b 73 2 v l.length (l.flatMap enV)) (h2 : w.ownsRow b' 73 2 v' l.length (l.flatMap enV)) :
    Calls Try.prog 31 #[v, v'] w fun e w' => e = .returned (.bool true) ∧ ∃ q, w' = w.drewN q := by
  obtain ⟨A, c, rfl, r1⟩ := Rd.ofOwn h1
  obtain ⟨A', c', rfl, r2⟩ := Rd.ofOwn h2
  exact eqEnt_same A A' _ c c' _ _ l w hn r1 r2
end Go.Proofs.Ytdffgkhlkbaecaa.Tok
