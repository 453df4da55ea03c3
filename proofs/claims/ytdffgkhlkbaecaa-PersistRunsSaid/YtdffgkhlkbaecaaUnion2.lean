/- Union's other cases: a number out of range, two numbers of one set. -/
import Derived.Test.YtdffgkhlkbaecaaUnion
namespace Go.Proofs.Ytdffgkhlkbaecaa.Tok
open Go.RowKit Go.Proofs.Ytdffgkhlkbaecaa

set_option maxHeartbeats 1600000 in
set_option maxRecDepth 8000 in
theorem union_out {base : Nat} (a b : Int) (g : Nat) (E : List El) (U : List (Nat × Nat)) (w : World) (h : IsSets base w g E U) (hE : E.length ≤ 10000) (hr : inR a E.length = false ∨ inR b E.length = false) :
    Calls Try.prog 19 #[.pointer (some ⟨g, 0, none⟩), .int .i64 a, .int .i64 b] w fun e w' => e = .returned (.tuple #[.bool false, .int .i64 3]) ∧ w' = w := by
  have HCa := Lib.hid (checkS_any a g E U w h hE)
  have HCb := Lib.hid (checkS_any b g E U w h hE)
  clear h
  cases ha : inR a E.length
  · rw [ha, if_neg (by decide)] at HCa
    clear hr ha HCb
    go_enter Try.func19, Try.ntmps19
    go_wp2_with fail
    refine (HCa.out).mono ?_
    rintro e w' ⟨rfl, hw⟩; obtain rfl := hw.symm; clear hw
    go_wp2
    go_ret2
    exact ⟨rfl, rfl⟩
  · have hb : inR b E.length = false := by rcases hr with h1 | h1; rw [ha] at h1; cases h1; exact h1
    rw [ha, if_pos rfl] at HCa
    rw [hb, if_neg (by decide)] at HCb
    clear hr ha hb
    go_enter Try.func19, Try.ntmps19
    go_wp2_with fail
    refine (HCa.out).mono ?_
    rintro e w' ⟨rfl, hw⟩; obtain rfl := hw.symm; clear hw
    go_wp2_with fail
    refine (HCb.out).mono ?_
    rintro e w' ⟨rfl, hw⟩; obtain rfl := hw.symm; clear hw
    go_wp2
    go_ret2
    exact ⟨rfl, rfl⟩
set_option maxHeartbeats 1600000 in
set_option maxRecDepth 8000 in
theorem union_same {base : Nat} (a b : Nat) (g : Nat) (E : List El) (U : List (Nat × Nat)) (w : World) (h : IsSets base w g E U) (hE : E.length ≤ 10000) (ok : Ok E) (ha : a < E.length) (hb : b < E.length) (hr : root E a = root E b) :
    Calls Try.prog 19 #[.pointer (some ⟨g, 0, none⟩), .int .i64 a, .int .i64 b] w fun e w' => e = .returned (.tuple #[.bool false, .int .i64 0]) ∧ w' = w := by
  have HCa := Lib.hid (checkS_any a g E U w h hE)
  have HCb := Lib.hid (checkS_any b g E U w h hE)
  have HRa := Lib.hid (rootS_any a g E U w h ok ha)
  have HRb := Lib.hid (rootS_any b g E U w h ok hb)
  have hra : inR (a : Int) E.length = true := by unfold inR; exact decide_eq_true ⟨by omega, by omega⟩
  have hrb : inR (b : Int) E.length = true := by unfold inR; exact decide_eq_true ⟨by omega, by omega⟩
  rw [hra, if_pos rfl] at HCa
  rw [hrb, if_pos rfl] at HCb
  rw [hr] at HRa
  generalize root E b = r at HRa HRb
  clear h ok ha hb hr hra hrb hE
  go_enter Try.func19, Try.ntmps19
  go_wp2_with fail
  refine (HCa.out).mono ?_
  rintro e w' ⟨rfl, hw⟩; obtain rfl := hw.symm; clear hw
  go_wp2_with fail
  refine (HCb.out).mono ?_
  rintro e w' ⟨rfl, hw⟩; obtain rfl := hw.symm; clear hw
  go_wp2_with fail
  refine (HRa.out).mono ?_
  rintro e w' ⟨rfl, hw⟩; obtain rfl := hw.symm; clear hw
  go_wp2_with fail
  refine (HRb.out).mono ?_
  rintro e w' ⟨rfl, hw⟩; obtain rfl := hw.symm; clear hw
  go_wp2
  go_ret2
  exact ⟨rfl, rfl⟩
end Go.Proofs.Ytdffgkhlkbaecaa.Tok
