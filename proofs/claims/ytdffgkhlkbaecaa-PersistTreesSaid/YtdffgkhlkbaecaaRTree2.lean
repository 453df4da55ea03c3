/- The reference's lists: Put and Split. -/
import Derived.Test.YtdffgkhlkbaecaaRTree1
import Derived.Deep.AppendLies
namespace Go.Proofs.Ytdffgkhlkbaecaa.Tok
open Go.RowKit Go.Proofs.Ytdffgkhlkbaecaa
open Tr (Sorted CmpOk lows highs)

theorem take_en : ∀ (R : Nat) (L : EntL), (L.flatMap enV).take (R * 2) = (L.take R).flatMap enV
  | 0, L => by simp
  | R + 1, [] => by simp
  | R + 1, a :: L => by
    rw [show (R + 1) * 2 = R * 2 + 1 + 1 by omega]
    show List.take (R * 2 + 1 + 1) (.string a.1 :: .int .i64 a.2 :: L.flatMap enV) = .string a.1 :: .int .i64 a.2 :: (L.take R).flatMap enV
    rw [List.take_succ_cons, List.take_succ_cons, take_en R L]
theorem drop_en : ∀ (R : Nat) (L : EntL), (L.flatMap enV).drop (R * 2) = (L.drop R).flatMap enV
  | 0, L => by simp
  | R + 1, [] => by simp
  | R + 1, a :: L => by
    rw [show (R + 1) * 2 = R * 2 + 1 + 1 by omega]
    show List.drop (R * 2 + 1 + 1) (.string a.1 :: .int .i64 a.2 :: L.flatMap enV) = (L.drop R).flatMap enV
    rw [List.drop_succ_cons, List.drop_succ_cons, drop_en R L]
theorem en_one (L : EntL) : ∀ u ∈ L.flatMap enV, u.oneCell' = true := by
  intro u hu
  obtain ⟨x, _, hx⟩ := List.mem_flatMap.1 hu
  simp only [enV, List.mem_cons, List.not_mem_nil, or_false] at hx
  rcases hx with rfl | rfl <;> rfl
/-- A list of entries that this call makes. -/
structure GrE (w W : World) (v : Value) (L : EntL) : Prop where
  own : W.ownsRow w.heap.size 73 2 v L.length (L.flatMap enV)
  bel : Below w.heap.size w W
section
variable {w W W' : World} {v v' : Value} {L M : EntL} {m : Nat}
theorem GrE.start (hb : Below w.heap.size w W) : GrE w (W.alloc (.cells #[] 73)) (.slice (some ⟨W.heap.size, 0, none⟩) 0 0) [] :=
  ⟨World.ownsRow_lit W #[] 0 hb.size (by decide) (by simp), hb.alloc hb.size _⟩
theorem GrE.app (h : GrE w W v L) (ho : W'.ownsRow w.heap.size 73 2 v' (L.length + m) (L.flatMap enV ++ M.flatMap enV)) (hm : M.length = m) (hg : W.grownBy W' v.ownBlock) : GrE w W' v' (L ++ M) :=
  ⟨by rw [List.length_append, List.flatMap_append, hm]; exact ho, h.bel.grown hg h.bel.size fun k e => (h.own.lt k e).1⟩
theorem GrE.below (h : GrE w W v L) (hb : Below W.heap.size W W') : GrE w W' v L := ⟨own_below h.own hb, h.bel.trans (hb.mono h.bel.size)⟩
theorem GrE.alloc (h : GrE w W v L) (o : Obj) : GrE w (W.alloc o) v L := h.below ((Below.refl _ _).alloc (Nat.le_refl _) o)
theorem GrE.owE (h : GrE w W v L) : OwE W v L := ⟨_, h.own⟩
end
set_option maxHeartbeats 1600000 in
set_option maxRecDepth 8000 in
theorem rput_any (A : Option Addr) (n c : Nat) (L : EntL) (k : ByteArray) (x : Int) (w : World) (hs : Sorted cmpS L) (hn : n ≤ 1000) (hnc : n ≤ c) (hr : Rd w w.heap.size 2 A n (L.flatMap enV)) :
    Calls Try.prog 27 #[.slice A n c, .string k, .int .i64 x] w fun e w' => ∃ v, e = .returned v ∧ Hid (GrE w w' v (lows cmpS k L ++ (k, x) :: highs cmpS k L)) := by
  obtain ⟨i0, hi0, iz0, iz1, iz2⟩ := info_parts infoEn
  have HR := Lib.hid (rrank_any A n c L k w hs hn hr)
  have HH : Hid (∀ W, Below w.heap.size w W → Calls Try.prog 35 #[.slice A n c, .string k] W fun e w' => e = .returned (.bool (hasK k L)) ∧ w' = W) := fun W hb => rhas_any A n c L k W hs hn ((hr.below hb).more hb.size)
  have hlen := ent_len hr
  have hd := drop_highs k hs
  have hle := lows_has k hs
  have Hlo := Lib.hid (show (L.flatMap enV).take ((lows cmpS k L).length * 2) = (lows cmpS k L).flatMap enV by rw [take_en, take_lows k hs])
  have HRd : Hid (∀ W, Below w.heap.size w W → Rd W w.heap.size 2 A n (L.flatMap enV)) := fun W hb => hr.below hb
  generalize hasK k L = o at HH hd hle
  obtain ⟨R', hR'⟩ : ∃ R' : Nat, R' = (lows cmpS k L).length + if o = true then 1 else 0 := ⟨_, rfl⟩
  rw [← hR'] at hd hle
  have Hhi := Lib.hid (show (L.flatMap enV).drop (R' * 2) = (highs cmpS k L).flatMap enV by rw [drop_en, hd])
  have hhl : (highs cmpS k L).length = n - R' := by rw [← hd, List.length_drop, hlen]
  generalize lows cmpS k L = lo at *
  generalize highs cmpS k L = hi at *
  obtain ⟨R, hR⟩ : ∃ R, R = lo.length := ⟨_, rfl⟩
  rw [← hR] at HR hR' Hlo
  have hRn : R ≤ n := by omega
  have hRn' : R' ≤ n := by omega
  have Hone := Lib.hid (en_one lo)
  have Hone2 := Lib.hid (en_one hi)
  have HrR := Lib.hid hR
  have Hhl := Lib.hid hhl
  have h63 : lo.length + 1 + hi.length ≤ 2000 := by omega
  have H63 := Lib.hid h63
  clear hr hs hd hle hlen hhl hR h63
  have k1 : Hid (0 + R ≤ maxLen ∧ (0 + R) * 24 ≤ 140737488355328) := by
    have := HrR.out; have := H63.out
    refine ⟨?_, ?_⟩
    · simp only [maxLen]; omega
    · omega
  have k2 : Hid (lo.length + 1 ≤ maxLen ∧ (lo.length + 1) * 24 ≤ 140737488355328) := by
    have := H63.out
    refine ⟨?_, ?_⟩
    · simp only [maxLen]; omega
    · omega
  have k3 : Hid ((lo ++ [(k, x)]).length + (n - R') ≤ maxLen ∧ ((lo ++ [(k, x)]).length + (n - R')) * 24 ≤ 140737488355328) := by
    have := H63.out; have := Hhl.out
    simp only [List.length_append, List.length_cons, List.length_nil]
    refine ⟨?_, ?_⟩
    · simp only [maxLen]; omega
    · omega
  go_enter Try.func27, Try.ntmps27
  go_wp2_with fail
  refine (HR.out).mono ?_
  rintro e w' ⟨rfl, hw⟩; obtain rfl := hw.symm; clear hw
  have g0 := Lib.hid (GrE.start (Below.refl w.heap.size w))
  go_wp2_with (first
    | (refine wpList_slice_to _ rfl (.tmp 13) (.tmp 14) 33 73 rfl i0 2 Try.underlying33 (by kernel_rfl) hi0 iz1 A n c rfl .i64 R rfl hRn hnc _ _ (HRd.out _ ((Below.refl _ _).alloc (Nat.le_refl _) _)) ?_; intro A1 c1 hr1; rw [Hlo.out] at hr1; have Hr1 := Lib.hid hr1; clear hr1)
    | (at_builtin; go_loud (refine wpList_append_rd _ rfl (.tmp 12) (.tmp 15) 33 rfl w.heap.size 73 i0 (.agg #[.string ⟨#[]⟩, .int .i64 0]) 2 24 Try.underlying33 hi0 iz0 iz1 iz2 rfl (by decide) _ _ _ rfl g0.out.own _ A1 R c1 _ rfl Hr1.out Hone.out k1.out.1 k1.out.2 g0.out.bel.size ?_); intro v1 w1 hown1 hgrow1; have g1 := Lib.hid (g0.out.app hown1 HrR.out.symm hgrow1); rw [List.nil_append] at g1; clear hown1 hgrow1 g0 Hr1)
    | (at_builtin; go_loud (refine wpList_append_own _ rfl (.tmp 17) (.tmp 21) 33 rfl w.heap.size 73 i0 (.agg #[.string ⟨#[]⟩, .int .i64 0]) 2 24 Try.underlying33 hi0 iz0 iz1 iz2 rfl (by decide) v1 lo.length (lo.flatMap enV) rfl (g1.out.alloc _).own ⟨w1.heap.size, 0, none⟩ 1 1 [.string k, .int .i64 x] rfl rfl (World.news_of_block (cs := #[.string k, .int .i64 x]) (t := 73) (fr := (0, 0)) (heap_alloc_new w1 _)) (by simp [Value.oneCell']) k2.out.1 k2.out.2 (g1.out.alloc _).bel.size ?_); intro v2 w2 hown2 hgrow2 _; have g2 := Lib.hid ((g1.out.alloc _).app (M := [(k, x)]) hown2 rfl hgrow2); clear hown2 hgrow2 g1)
    | fail)
  refine (HH.out _ g2.out.bel).mono ?_
  rintro e w' ⟨rfl, hw⟩; obtain rfl := hw.symm; clear hw
  cases o with
  | false =>
    obtain rfl : R' = R := by simpa using hR'
    clear hR'
    go_wp2_with (first
      | (refine wpList_slice_from _ rfl (.tmp 29) (.tmp 30) 33 73 rfl i0 2 Try.underlying33 (by kernel_rfl) hi0 iz1 A n c rfl .i64 R' rfl hRn' hnc _ _ (HRd.out _ g2.out.bel) ?_; intro A3 c3 hr3; rw [Hhi.out] at hr3; have Hr3 := Lib.hid hr3; clear hr3)
      | (at_builtin; refine wpList_append_rd _ rfl (.tmp 28) (.tmp 31) 33 rfl w.heap.size 73 i0 (.agg #[.string ⟨#[]⟩, .int .i64 0]) 2 24 Try.underlying33 hi0 iz0 iz1 iz2 rfl (by decide) _ _ _ rfl g2.out.own _ A3 (n - R') c3 _ rfl Hr3.out Hone2.out k3.out.1 k3.out.2 g2.out.bel.size ?_; intro v3 w3 hown3 hgrow3; have g3 := Lib.hid (g2.out.app hown3 Hhl.out hgrow3); clear hown3 hgrow3 g2 Hr3))
    go_ret
    refine ⟨v3, rfl, ?_⟩
    have := g3.out
    rw [List.append_assoc] at this
    exact this
  | true =>
    obtain rfl : R' = R + 1 := by simpa using hR'
    clear hR'
    have hw1 : IntKind.i64.wrap ((R : Int) + 1) = (R : Int) + 1 := IntWalk.i64_in _ (by omega)
    have hw2 : (R : Int) + 1 ≤ (n : Int) := by omega
    go_wp2_with (first
      | (refine wpList_slice_from _ rfl (.tmp 29) (.tmp 30) 33 73 rfl i0 2 Try.underlying33 (by kernel_rfl) hi0 iz1 A n c rfl .i64 (R + 1) rfl hRn' hnc _ _ (HRd.out _ g2.out.bel) ?_; intro A3 c3 hr3; rw [Hhi.out] at hr3; have Hr3 := Lib.hid hr3; clear hr3)
      | (at_builtin; refine wpList_append_rd _ rfl (.tmp 28) (.tmp 31) 33 rfl w.heap.size 73 i0 (.agg #[.string ⟨#[]⟩, .int .i64 0]) 2 24 Try.underlying33 hi0 iz0 iz1 iz2 rfl (by decide) _ _ _ rfl g2.out.own _ A3 (n - (R + 1)) c3 _ rfl Hr3.out Hone2.out k3.out.1 k3.out.2 g2.out.bel.size ?_; intro v3 w3 hown3 hgrow3; have g3 := Lib.hid (g2.out.app hown3 Hhl.out hgrow3); clear hown3 hgrow3 g2 Hr3))
    go_ret
    refine ⟨v3, rfl, ?_⟩
    have := g3.out
    rw [List.append_assoc] at this
    exact this
end Go.Proofs.Ytdffgkhlkbaecaa.Tok
