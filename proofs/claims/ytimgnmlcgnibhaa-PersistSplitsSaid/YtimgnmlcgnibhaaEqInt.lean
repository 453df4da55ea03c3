/- slices.Equal of two equal lists of numbers. -/
import Derived.Test.YtimgnmlcgnibhaaSets
namespace Go.Proofs.Ytimgnmlcgnibhaa.Tok
open Go.RowKit Go.Proofs.Ytimgnmlcgnibhaa

theorem eqInt_same12 (A A' : Option Addr) (n c d B B' : Nat) (ss : List Int) (w : World) (hn : n ≤ 140737488355328)
    (h1 : Rd w B 1 A n (ss.map (Value.int .i64))) (h2 : Rd w B' 1 A' n (ss.map (Value.int .i64))) :
    Calls Try.prog 86 #[.slice A n c, .slice A' n d] w fun e w' => e = .returned (.bool true) ∧ ∃ q, w' = w.drewN q := by
  rcases Nat.eq_zero_or_pos n with rfl | hpos
  · clear h1 h2
    go_enter Try.func86, Try.ntmps86
    go_wp2
    go_loop [13] (fun i => i = .int .i64 0) (fun i => 0)
    case atStart => rfl
    case round =>
      subst hrel
      go_wp2
      go_ret
      exact ⟨rfl, 0, rfl⟩
  · obtain ⟨b, off, rfl, hb, hc⟩ := h1.pos hpos
    obtain ⟨b', off', rfl, hb', hc'⟩ := h2.pos hpos
    have hlen := Lib.hid h1.len
    clear h1 h2
    have Hc := Lib.hid hc
    have Hc' := Lib.hid hc'
    clear hc hc'
    go_enter Try.func86, Try.ntmps86
    go_wp2
    go_loopw [13] (fun i wr => ∃ k q : Nat, k ≤ n ∧ i = .int .i64 k ∧ wr = w.drewN q) (fun i _ => n - (intOf i).toNat)
    case atStart => exact ⟨0, 0, by omega, rfl, rfl⟩
    case round =>
      obtain ⟨k, q, hk, rfl, rfl⟩ := hrel
      by_cases hlt : k < n
      · have hk1 : k < ss.length := by have := hlen.out; simp at this; omega
        have hg : (ss.map (Value.int .i64))[k]? = some (.int .i64 ss[k]) := by simp [hk1]
        obtain ⟨x, hx⟩ : ∃ x, x = ss[k] := ⟨_, rfl⟩
        rw [← hx] at hg
        clear hx
        have hcell := Hc.out k _ hg
        have hcell' := Hc'.out k _ hg
        clear hg
        go_wp2
        go_quiet (fail)
        go_wp2
        go_light
        refine ⟨⟨k + 1, _, by omega, by go_num, rfl⟩, by simp [intOf]; omega⟩
      · obtain rfl : k = n := by omega
        go_wp2
        go_ret
        exact ⟨rfl, q, rfl⟩
end Go.Proofs.Ytimgnmlcgnibhaa.Tok
