/- The reference's lists: Delete. -/
import Derived.Test.YtdffgkhlkbaecaaRTree2
import Derived.Test.YtdffgkhlkbaecaaRSets3
namespace Go.Proofs.Ytdffgkhlkbaecaa.Tok
open Go.RowKit Go.Proofs.Ytdffgkhlkbaecaa
open Tr (Sorted CmpOk lows highs)

theorem GrE.drew {w W : World} {v : Value} {L : EntL} (h : GrE w W v L) : GrE w W.drew v L := ⟨h.own, h.bel.drew⟩
set_option maxHeartbeats 1600000 in
set_option maxRecDepth 8000 in
theorem rdelete_any (A : Option Addr) (n c : Nat) (L : EntL) (k : ByteArray) (w : World) (hs : Sorted cmpS L) (hn : n ≤ 1000) (hnc : n ≤ c) (hr : Rd w w.heap.size 2 A n (L.flatMap enV)) :
    Calls Try.prog 28 #[.slice A n c, .string k] w fun e w' => ∃ v, e = .returned v ∧ Hid (GrE w w' v (lows cmpS k L ++ highs cmpS k L)) := by
  obtain ⟨i0, hi0, iz0, iz1, iz2⟩ := info_parts infoEn
  have HR := Lib.hid (rrank_any A n c L k w hs hn hr)
  have HH := Lib.hid (rhas_any A n c L k w hs hn hr)
  have hlen := ent_len hr
  have hd := drop_highs k hs
  have hle := lows_has k hs
  have Hlo := Lib.hid (show (L.flatMap enV).take ((lows cmpS k L).length * 2) = (lows cmpS k L).flatMap enV by rw [take_en, take_lows k hs])
  have HRd : Hid (∀ W, Below w.heap.size w W → Rd W w.heap.size 2 A n (L.flatMap enV)) := fun W hb => hr.below hb
  have hno : hasK k L = false → lows cmpS k L ++ highs cmpS k L = L := fun h => by
    rcases sorted_rest k hs with ⟨_, h1, _⟩ | ⟨h1, _⟩
    · exact h1.symm
    · rw [h] at h1; cases h1
  have HoneL := Lib.hid (en_one L)
  have HlenL := Lib.hid hlen
  generalize hasK k L = o at HH hd hle hno
  have hhl : (highs cmpS k L).length = n - ((lows cmpS k L).length + if o = true then 1 else 0) := by rw [← hd, List.length_drop, hlen]
  cases o with
  | false =>
    rw [hno rfl]
    have k1 : Hid (0 + n ≤ maxLen ∧ (0 + n) * 24 ≤ 140737488355328) := by
      refine ⟨?_, ?_⟩
      · simp only [maxLen]; omega
      · omega
    clear hr hs hd hle hlen hhl hno Hlo HR
    go_enter Try.func28, Try.ntmps28
    go_wp2_with fail
    refine (HH.out).mono ?_
    rintro e w' ⟨rfl, hw⟩; obtain rfl := hw.symm; clear hw
    have g0 := Lib.hid (GrE.start (Below.refl w.heap.size w))
    go_wp2_with (at_builtin; go_loud (refine wpList_append_rd _ rfl (.tmp 10) (.tmp 11) 33 rfl w.heap.size 73 i0 (.agg #[.string ⟨#[]⟩, .int .i64 0]) 2 24 Try.underlying33 hi0 iz0 iz1 iz2 rfl (by decide) _ _ _ rfl g0.out.own _ A n c _ rfl (HRd.out _ ((Below.refl _ _).alloc (Nat.le_refl _) _)) HoneL.out k1.out.1 k1.out.2 g0.out.bel.size ?_); intro v1 w1 hown1 hgrow1; have g1 := Lib.hid (g0.out.app hown1 HlenL.out hgrow1); rw [List.nil_append] at g1; clear hown1 hgrow1 g0)
    go_ret
    exact ⟨v1, rfl, g1.out⟩
  | true =>
    rw [if_pos rfl] at hd hle hhl
    have Hhi := Lib.hid (show (L.flatMap enV).drop (((lows cmpS k L).length + 1) * 2) = (highs cmpS k L).flatMap enV by rw [drop_en, hd])
    generalize lows cmpS k L = lo at *
    generalize highs cmpS k L = hi at *
    obtain ⟨R, hR⟩ : ∃ R, R = lo.length := ⟨_, rfl⟩
    rw [← hR] at HR Hlo Hhi hle hhl
    have hRn : R ≤ n := by omega
    have hRn' : R + 1 ≤ n := by omega
    have Hone := Lib.hid (en_one lo)
    have Hone2 := Lib.hid (en_one hi)
    have HrR := Lib.hid hR
    have Hhl := Lib.hid hhl
    have hw1 : IntKind.i64.wrap ((R : Int) + 1) = (R : Int) + 1 := IntWalk.i64_in _ (by omega)
    have hw2 : (R : Int) + 1 ≤ (n : Int) := by omega
    have hw3 : (0 : Int) ≤ (R : Int) + 1 := by omega
    have hw4 : (R : Int) ≤ (R : Int) + 1 := by omega
    obtain ⟨b, off, rfl, hbb, hcc⟩ := hr.pos (by omega : 0 < n)
    have hRc : R ≤ c := by omega
    have Hr1 : Hid (∀ W, Below w.heap.size w W → Rd W w.heap.size 2 (some ⟨b, off, none⟩) R (lo.flatMap enV)) := fun W hW => by
      have := (HRd.out W hW).cut hnc 0 R (by omega)
      rw [Nat.zero_mul, List.drop_zero, Hlo.out] at this
      have e : (if c = 0 then some (⟨b, off, none⟩ : Addr) else Option.map (fun x : Addr => x.add 0) (some ⟨b, off, none⟩)) = some ⟨b, off, none⟩ := by simp [Addr.add]
      rwa [e] at this
    have Hr3 : Hid (c ≠ R + 1 → ∀ W, Below w.heap.size w W → Rd W w.heap.size 2 (some ⟨b, off + (R + 1) * 2, none⟩) (n - (R + 1)) (hi.flatMap enV)) := fun h W hW => by
      have := (HRd.out W hW).cut hnc (R + 1) (n - (R + 1)) (by omega)
      rw [Hhi.out, if_neg h, Option.map_some, Go.WideShapes.add_plain, List.take_of_length_le (by rw [enV_len, hhl]; exact Nat.le_refl _)] at this
      exact this
    clear hr hs hd hle hlen hhl hR hno HoneL HlenL hcc
    have k1 : Hid (0 + R ≤ maxLen ∧ (0 + R) * 24 ≤ 140737488355328) := by
      refine ⟨?_, ?_⟩
      · simp only [maxLen]; omega
      · omega
    have k3 : Hid (lo.length + (n - (R + 1)) ≤ maxLen ∧ (lo.length + (n - (R + 1))) * 24 ≤ 140737488355328) := by
      have := HrR.out
      refine ⟨?_, ?_⟩
      · simp only [maxLen]; omega
      · omega
    go_enter Try.func28, Try.ntmps28
    go_wp2_with fail
    refine (HH.out).mono ?_
    rintro e w' ⟨rfl, hw⟩; obtain rfl := hw.symm; clear hw
    go_wp2_with fail
    refine (HR.out).mono ?_
    rintro e w' ⟨rfl, hw⟩; obtain rfl := hw.symm; clear hw
    have g0 := Lib.hid (GrE.start (Below.refl w.heap.size w))
    go_wp2_with fail
    by_cases hcR : c = R + 1
    · obtain rfl : n = R + 1 := by omega
      obtain rfl : c = R + 1 := hcR
      obtain rfl : hi = [] := List.eq_nil_of_length_eq_zero (by have := Hhl.out; omega)
      go_region_law (first
        | (refine step_append_rd _ (by rfl) _ _ 33 (by rfl) w.heap.size 73 i0 (.agg #[.string ⟨#[]⟩, .int .i64 0]) 2 24 Try.underlying33 hi0 iz0 iz1 iz2 rfl (by decide) (.slice (some ⟨w.heap.size, 0, none⟩) 0 0) 0 [] (by rfl) g0.out.drew.own _ (some ⟨b, off, none⟩) R _ (lo.flatMap enV) (by rfl) (Hr1.out _ g0.out.drew.bel) Hone.out k1.out.1 k1.out.2 g0.out.drew.bel.size ?_; intro A4 c4 w1 hown1 hgrow1; have g1 := Lib.hid (g0.out.drew.app hown1 HrR.out.symm hgrow1); rw [List.nil_append, Nat.zero_add] at g1; clear hown1 hgrow1)
        | (go_loud (refine step_append_rd _ (by rfl) _ _ 33 (by rfl) w.heap.size 73 i0 (.agg #[.string ⟨#[]⟩, .int .i64 0]) 2 24 Try.underlying33 hi0 iz0 iz1 iz2 rfl (by decide) (.slice A4 R c4) lo.length (lo.flatMap enV) (by rfl) g1.out.own w.heap.size (some ⟨b, off, none⟩) 0 _ [] (by rfl) (Rd.nil _ _ _ _) (by simp) (by simpa using k3.out.1) (by simpa using k3.out.2) g1.out.bel.size ?_); intro A5 c5 w2 hown2 hgrow2; have g2 := Lib.hid (g1.out.app (M := []) hown2 rfl hgrow2); clear hown2 hgrow2))
      all_goals
        go_wp2
        go_ret
        exact ⟨_, rfl, g2.out⟩
    · have Hr4 := Lib.hid (Hr3.out hcR)
      go_region_law (first
        | (refine step_append_rd _ (by rfl) _ _ 33 (by rfl) w.heap.size 73 i0 (.agg #[.string ⟨#[]⟩, .int .i64 0]) 2 24 Try.underlying33 hi0 iz0 iz1 iz2 rfl (by decide) (.slice (some ⟨w.heap.size, 0, none⟩) 0 0) 0 [] (by rfl) g0.out.drew.own _ (some ⟨b, off, none⟩) R _ (lo.flatMap enV) (by rfl) (Hr1.out _ g0.out.drew.bel) Hone.out k1.out.1 k1.out.2 g0.out.drew.bel.size ?_; intro A4 c4 w1 hown1 hgrow1; have g1 := Lib.hid (g0.out.drew.app hown1 HrR.out.symm hgrow1); rw [List.nil_append, Nat.zero_add] at g1; clear hown1 hgrow1)
        | (go_loud (refine step_append_rd _ (by rfl) _ _ 33 (by rfl) w.heap.size 73 i0 (.agg #[.string ⟨#[]⟩, .int .i64 0]) 2 24 Try.underlying33 hi0 iz0 iz1 iz2 rfl (by decide) (.slice A4 R c4) lo.length (lo.flatMap enV) (by rfl) g1.out.own _ (some ⟨b, off + (R + 1) * 2, none⟩) (n - (R + 1)) _ (hi.flatMap enV) (by rfl) (Hr4.out _ g1.out.bel) Hone2.out k3.out.1 k3.out.2 g1.out.bel.size ?_); intro A5 c5 w2 hown2 hgrow2; have g2 := Lib.hid (g1.out.app hown2 Hhl.out hgrow2); clear hown2 hgrow2))
      all_goals
        go_wp2
        go_ret
        exact ⟨_, rfl, g2.out⟩
end Go.Proofs.Ytdffgkhlkbaecaa.Tok
