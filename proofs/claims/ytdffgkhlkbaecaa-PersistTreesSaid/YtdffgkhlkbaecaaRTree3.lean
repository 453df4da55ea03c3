/- The reference's lists: Split. -/
import Derived.Test.YtdffgkhlkbaecaaRTree2
namespace Go.Proofs.Ytdffgkhlkbaecaa.Tok
open Go.RowKit Go.Proofs.Ytdffgkhlkbaecaa
open Tr (Sorted CmpOk lows highs)

set_option maxHeartbeats 1600000 in
set_option maxRecDepth 8000 in
theorem rsplit_any (A : Option Addr) (n c : Nat) (L : EntL) (k : ByteArray) (w : World) (hs : Sorted cmpS L) (hn : n ≤ 1000) (hnc : n ≤ c) (hr : Rd w w.heap.size 2 A n (L.flatMap enV)) :
    Calls Try.prog 26 #[.slice A n c, .string k] w fun e w' => ∃ v v', e = .returned (.tuple #[v, v']) ∧ Hid (OwE w' v (lows cmpS k L)) ∧ Hid (OwE w' v' (highs cmpS k L)) ∧ Hid (Below w.heap.size w w') := by
  obtain ⟨i0, hi0, iz0, iz1, iz2⟩ := info_parts infoEn
  have HR := Lib.hid (rrank_any A n c L k w hs hn hr)
  have HH : Hid (∀ W, Below w.heap.size w W → Calls Try.prog 35 #[.slice A n c, .string k] W fun e w' => e = .returned (.bool (hasK k L)) ∧ w' = W) := fun W hb => rhas_any A n c L k W hs hn ((hr.below hb).more hb.size)
  have hlen := ent_len hr
  have hd := drop_highs k hs
  have hle := lows_has k hs
  have Hlo := Lib.hid (show (L.flatMap enV).take ((lows cmpS k L).length * 2) = (lows cmpS k L).flatMap enV by rw [take_en, take_lows k hs])
  have HRd : Hid (∀ W, Below w.heap.size w W → Rd W w.heap.size 2 A n (L.flatMap enV)) := fun W hb => hr.below hb
  generalize hasK k L = o at HH hd hle
  obtain ⟨R', hR'⟩ : ∃ R' : Nat, R' = (lows cmpS k L).length + if o = true then 1 else 0 := ⟨_, rfl⟩
  rw [← hR'] at hd hle
  have Hhi := Lib.hid (show (L.flatMap enV).drop (R' * 2) = (highs cmpS k L).flatMap enV by rw [drop_en, hd])
  have hhl : (highs cmpS k L).length = n - R' := by rw [← hd, List.length_drop, hlen]
  generalize lows cmpS k L = lo at *
  generalize highs cmpS k L = hi at *
  obtain ⟨R, hR⟩ : ∃ R, R = lo.length := ⟨_, rfl⟩
  rw [← hR] at HR hR' Hlo
  have hRn : R ≤ n := by omega
  have hRn' : R' ≤ n := by omega
  have Hone := Lib.hid (en_one lo)
  have Hone2 := Lib.hid (en_one hi)
  have HrR := Lib.hid hR
  have Hhl := Lib.hid hhl
  clear hr hs hd hle hlen hhl hR
  have k1 : Hid (0 + R ≤ maxLen ∧ (0 + R) * 24 ≤ 140737488355328) := by
    refine ⟨?_, ?_⟩
    · simp only [maxLen]; omega
    · omega
  have k3 : Hid (0 + (n - R') ≤ maxLen ∧ (0 + (n - R')) * 24 ≤ 140737488355328) := by
    refine ⟨?_, ?_⟩
    · simp only [maxLen]; omega
    · omega
  go_enter Try.func26, Try.ntmps26
  go_wp2_with fail
  refine (HR.out).mono ?_
  rintro e w' ⟨rfl, hw⟩; obtain rfl := hw.symm; clear hw
  have g0 := Lib.hid (GrE.start (Below.refl w.heap.size w))
  go_wp2_with (first
    | (refine wpList_slice_to _ rfl (.tmp 12) (.tmp 13) 33 73 rfl i0 2 Try.underlying33 (by kernel_rfl) hi0 iz1 A n c rfl .i64 R rfl hRn hnc _ _ (HRd.out _ ((Below.refl _ _).alloc (Nat.le_refl _) _)) ?_; intro A1 c1 hr1; rw [Hlo.out] at hr1; have Hr1 := Lib.hid hr1; clear hr1)
    | (at_builtin; go_loud (refine wpList_append_rd _ rfl (.tmp 11) (.tmp 14) 33 rfl w.heap.size 73 i0 (.agg #[.string ⟨#[]⟩, .int .i64 0]) 2 24 Try.underlying33 hi0 iz0 iz1 iz2 rfl (by decide) _ _ _ rfl g0.out.own _ A1 R c1 _ rfl Hr1.out Hone.out k1.out.1 k1.out.2 g0.out.bel.size ?_); intro v1 w1 hown1 hgrow1; have g1 := Lib.hid (g0.out.app hown1 HrR.out.symm hgrow1); rw [List.nil_append] at g1; clear hown1 hgrow1 g0 Hr1)
    | fail)
  refine (HH.out _ g1.out.bel).mono ?_
  rintro e w' ⟨rfl, hw⟩; obtain rfl := hw.symm; clear hw
  have g2 := Lib.hid (GrE.start (Below.refl w1.heap.size w1))
  have hb2 : Hid (∀ o, Below w.heap.size w (w1.alloc o)) := fun o => g1.out.bel.alloc g1.out.bel.size o
  cases o with
  | false =>
    obtain rfl : R' = R := by simpa using hR'
    clear hR'
    go_wp2_with (first
      | (refine wpList_slice_from _ rfl (.tmp 23) (.tmp 24) 33 73 rfl i0 2 Try.underlying33 (by kernel_rfl) hi0 iz1 A n c rfl .i64 R' rfl hRn' hnc _ _ (HRd.out _ (hb2.out _)) ?_; intro A3 c3 hr3; rw [Hhi.out] at hr3; have Hr3 := Lib.hid hr3; clear hr3)
      | (at_builtin; go_loud (refine wpList_append_rd _ rfl (.tmp 22) (.tmp 25) 33 rfl w1.heap.size 73 i0 (.agg #[.string ⟨#[]⟩, .int .i64 0]) 2 24 Try.underlying33 hi0 iz0 iz1 iz2 rfl (by decide) _ _ _ rfl g2.out.own _ A3 (n - R') c3 _ rfl Hr3.out Hone2.out k3.out.1 k3.out.2 g2.out.bel.size ?_); intro v3 w3 hown3 hgrow3; have g3 := Lib.hid (g2.out.app hown3 Hhl.out hgrow3); rw [List.nil_append] at g3; clear hown3 hgrow3 g2 Hr3))
    go_ret2
    exact ⟨v1, v3, rfl, (g1.out.below g3.out.bel).owE, g3.out.owE, g1.out.bel.trans (g3.out.bel.mono g1.out.bel.size)⟩
  | true =>
    obtain rfl : R' = R + 1 := by simpa using hR'
    clear hR'
    have hw1 : IntKind.i64.wrap ((R : Int) + 1) = (R : Int) + 1 := IntWalk.i64_in _ (by omega)
    have hw2 : (R : Int) + 1 ≤ (n : Int) := by omega
    go_wp2_with (first
      | (refine wpList_slice_from _ rfl (.tmp 23) (.tmp 24) 33 73 rfl i0 2 Try.underlying33 (by kernel_rfl) hi0 iz1 A n c rfl .i64 (R + 1) rfl hRn' hnc _ _ (HRd.out _ (hb2.out _)) ?_; intro A3 c3 hr3; rw [Hhi.out] at hr3; have Hr3 := Lib.hid hr3; clear hr3)
      | (at_builtin; go_loud (refine wpList_append_rd _ rfl (.tmp 22) (.tmp 25) 33 rfl w1.heap.size 73 i0 (.agg #[.string ⟨#[]⟩, .int .i64 0]) 2 24 Try.underlying33 hi0 iz0 iz1 iz2 rfl (by decide) _ _ _ rfl g2.out.own _ A3 (n - (R + 1)) c3 _ rfl Hr3.out Hone2.out k3.out.1 k3.out.2 g2.out.bel.size ?_); intro v3 w3 hown3 hgrow3; have g3 := Lib.hid (g2.out.app hown3 Hhl.out hgrow3); rw [List.nil_append] at g3; clear hown3 hgrow3 g2 Hr3))
    go_ret2
    exact ⟨v1, v3, rfl, (g1.out.below g3.out.bel).owE, g3.out.owE, g1.out.bel.trans (g3.out.bel.mono g1.out.bel.size)⟩
end Go.Proofs.Ytdffgkhlkbaecaa.Tok
