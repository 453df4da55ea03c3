/- The law of the depth, walked. -/
import Derived.Test.YtimgnmlcgnibhaaDepthRel
import Derived.Test.YtimgnmlcgnibhaaAwake12
import Derived.Deep.RegionHeld3
namespace Go.Proofs.Ytimgnmlcgnibhaa.Tok
open Go.RowKit Go.Proofs.Ytimgnmlcgnibhaa

theorem infoTree : (Try.prog.info? 27).map (fun i => (i.zero, i.size, i.bytes)) = some (some (.agg #[.pointer none]), 1, 8) := by kernel_rfl
theorem one_ptr1 (p : Option Addr) : ∀ u ∈ [Value.pointer p], u.oneCell' = true := by
  intro u hu
  simp at hu
  subst hu
  rfl
theorem ptr_new1 (w : World) (t : TypeId) (a : Value) {j : Nat} {u : Value} (h : [a][j]? = some u) : (w.alloc (.cells #[a] t)).cell? ((⟨w.heap.size, 0, none⟩ : Addr).add j) = some u := by
  rw [add_zero_block, cell_of_row _ _ _ _ _ _ (heap_alloc_new w _)]
  simpa using h
theorem slice_of {w : World} {base e size n : Nat} {v : Value} {xs : List Value} (h : w.ownsRow base e size v n xs) : ∃ A c, v = .slice A n c := by
  rcases h.2 with ⟨rfl, rfl⟩ | ⟨g, cap, cur, rfl, _⟩
  · exact ⟨_, _, rfl⟩
  · exact ⟨_, _, rfl⟩

set_option maxHeartbeats 3200000 in
set_option maxRecDepth 8000 in
theorem law_depth (A : Option Addr) (m hc : Nat) (os : List OpT) (w : World) (hq : ∀ o ∈ os, OpOk o) (hh : Rd w w.heap.size 5 A m (os.flatMap opV)) :
    Calls Try.prog 4 #[.slice A m hc] w fun e w' => e = .returned (.bool true) ∧ Below w.heap.size w w' := by
  obtain ⟨i0, hi0, iz0, iz1, iz2⟩ := info_parts infoTree
  have hlen : os.length = m := by have := hh.len; rw [flatN_len 5 opV (fun _ => rfl)] at this; omega
  have Hlen := Lib.hid hlen
  have Hh := Lib.hid hh
  have Hq := Lib.hid hq
  clear hlen hq
  have HF := Lib.hid (few_any A m hc os w (fun _ => hh))
  clear hh
  go_enter Try.func4, Try.ntmps4
  go_wp2_with fail
  refine (HF.out).mono ?_
  rintro e w1 ⟨⟨b, rfl, hb120⟩, hb1⟩
  have Hb1 := Lib.hid hb1
  cases b with
  | false =>
    clear hb1 hb120
    go_wp2_with fail
    refine (awake12_any w1).mono ?_
    rintro e w2 ⟨rfl, hb2⟩
    have Hb2 := Lib.hid (Hb1.out.trans (hb2.mono Hb1.out.size))
    clear hb2
    go_wp2
    go_ret
    exact ⟨rfl, Hb2.out⟩
  | true =>
    have hm := hb120 rfl
    clear hb120 hb1
    have Hstart := Lib.hid (DepRel.start w os w1 Hb1.out Hb1.out.size)
    go_wp2
    go_loopw [3, 16] (fun v i wr => ∃ (k : Nat) (ps : List (Option Addr)) (ts : List TrS), k ≤ m ∧ i = .int .i64 k ∧ Hid (DepRel w os k v ps ts wr)) (fun _ i _ => m - (intOf i).toNat)
    case atStart => exact ⟨0, _, _, Nat.zero_le _, rfl, Hstart.out⟩
    case round =>
      clear Hstart
      obtain ⟨k, ps, ts, hk, rfl, hrel⟩ := hrel
      obtain ⟨A3, c3, rfl⟩ := slice_of hrel.out.own
      by_cases hlt : k < m
      · obtain ⟨b, off, rfl, hbb, hcc⟩ := Hh.out.pos (by omega)
        have hk1 : k < os.length := by have := Hlen.out; omega
        have hcell0 := (hrel.out.bel.cell (p := ⟨b, off + k * 5, none⟩) hbb).trans (hcc (k * 5) _ ((flatN 5 opV (fun _ => rfl) os k 0 hk1 (by omega)).trans rfl))
        have hcell1 := (hrel.out.bel.cell (p := ⟨b, off + (k * 5 + 1), none⟩) hbb).trans (hcc (k * 5 + 1) _ ((flatN 5 opV (fun _ => rfl) os k 1 hk1 (by omega)).trans rfl))
        have hcell2 := (hrel.out.bel.cell (p := ⟨b, off + (k * 5 + 2), none⟩) hbb).trans (hcc (k * 5 + 2) _ ((flatN 5 opV (fun _ => rfl) os k 2 hk1 (by omega)).trans rfl))
        have hcell3 := (hrel.out.bel.cell (p := ⟨b, off + (k * 5 + 3), none⟩) hbb).trans (hcc (k * 5 + 3) _ ((flatN 5 opV (fun _ => rfl) os k 3 hk1 (by omega)).trans rfl))
        have hcell4 := (hrel.out.bel.cell (p := ⟨b, off + (k * 5 + 4), none⟩) hbb).trans (hcc (k * 5 + 4) _ ((flatN 5 opV (fun _ => rfl) os k 4 hk1 (by omega)).trans rfl))
        rw [← Nat.add_assoc] at hcell1 hcell2 hcell3 hcell4
        have Hfine := Lib.hid (hrel.out.step hk1)
        have hox := Hq.out _ (List.getElem_mem hk1)
        obtain ⟨x, hx⟩ : ∃ x, x = os[k] := ⟨_, rfl⟩
        rw [← hx] at hcell0 hcell1 hcell2 hcell3 hcell4 Hfine hox
        clear hx hcc
        have Hox := Lib.hid hox
        clear hox
        have HS : Hid (∀ o, Calls Try.prog 12 #[.slice A3 (k + 1) c3, .agg #[.int .u8 x.kind, .int .u8 x.tree, .int .u8 x.other, .string x.key, .int .i64 x.val]] (wr.alloc o) fun e w' => MakesT Value.string 127 (wr.alloc o) (stepV ts x) e w' ∧ Hid (Below wr.heap.size wr w')) := fun o => by
          have hb : Below wr.heap.size wr (wr.alloc o) := (Below.refl _ _).alloc (Nat.le_refl _) o
          refine (step_any A3 (k + 1) c3 ps ts x (wr.alloc o) (by omega) (by omega) (((Rd.own hrel.out.own).below hb).more hb.size) ⟨hrel.out.all.1, fun j p t hp ht => (hrel.out.all.2 j p t hp ht).below hb⟩ (hrel.out.sizes (by omega)) Hox.out.1 Hox.out.2.1 Hox.out.2.2).mono ?_
          rintro e w' ⟨r, h1, h2, h3⟩
          exact ⟨⟨r, h1, h2, h3⟩, hb.trans (h3.mono hb.size)⟩
        obtain ⟨hd13, hp1, hp2, hz0⟩ := Hfine.out.deep (by have := keysTo_len os (k + 1); omega)
        have hsz := Hfine.out.le
        have hkl := keysTo_len os (k + 1)
        generalize stepV ts x = T at HS Hfine hd13 hp1 hp2 hz0 hsz
        obtain ⟨d, hd⟩ : ∃ d, d = T.height := ⟨_, rfl⟩
        obtain ⟨s, hs⟩ : ∃ s, s = T.size := ⟨_, rfl⟩
        rw [← hd] at hd13 hp1 hp2 hz0
        rw [← hs] at hp1 hp2 hz0 hsz
        have hs120 : s ≤ 120 := by omega
        clear hsz hkl
        obtain ⟨xk, xt, xq, xs, xv⟩ := x
        simp only at hcell0 hcell1 hcell2 hcell3 hcell4 HS
        go_wp2_with fail
        refine (HS.out _).mono ?_
        rintro e w2 ⟨⟨r, rfl, hI, -⟩, hb2⟩
        have Hd := Lib.hid hd
        have Hs := Lib.hid hs
        have HI := Lib.hid hI
        clear hd hs hI hcell0 hcell1 hcell2 hcell3 hcell4
        go_wp2_with fail
        generalize hwq : World.alloc w2 _ = wq
        have Hbq := Lib.hid (show Below wr.heap.size wr wq by subst hwq; exact hb2.out.alloc hb2.out.size _)
        have Hc : Hid (∀ wx, Below wq.heap.size wq wx → wx.cell? ⟨w2.heap.size, 0, none⟩ = some (.pointer r) ∧ Is Value.string 127 wx r T ∧ Below wr.heap.size wr wx) := by
          intro wx hx
          have hIq : Is Value.string 127 wq r T := by subst hwq; exact HI.out.below ((Below.refl _ _).alloc (Nat.le_refl _) _)
          refine ⟨?_, hIq.below hx, Hbq.out.trans (hx.mono Hbq.out.size)⟩
          have hrow : wq.heap[w2.heap.size]? = some (.cells #[.pointer r] 27 (0, 0)) := by subst hwq; exact heap_alloc_new _ _
          have hlt : w2.heap.size < wq.heap.size := by subst hwq; simp
          exact (cell_of_row _ _ 0 _ _ _ ((hx.block _ hlt).trans hrow)).trans rfl
        clear hwq HI hb2 HS
        refine (depthT_any r T wq (Hc.out _ (Below.refl _ _)).2.1).mono ?_
        rintro e w4 ⟨rfl, hb4'⟩
        rw [← Hd.out]
        have Hb4 := Lib.hid hb4'
        clear hb4'
        obtain ⟨c4, -, -⟩ := Hc.out _ Hb4.out
        have HSz : Hid (∀ w1, Below w4.heap.size w4 w1 → Calls Try.prog 16 #[.agg #[.pointer r]] w1 fun e w' => e = .returned (.int .i64 (s : Nat)) ∧ Below w4.heap.size w4 w' ∧ w'.cell? ⟨w2.heap.size, 0, none⟩ = some (.pointer r)) := fun w1 h => by
          have h' : Below wq.heap.size wq w1 := Hb4.out.trans (h.mono Hb4.out.size)
          rw [Hs.out]
          refine (sizeT_any r T w1 (Hc.out _ h').2.1).mono ?_
          rintro e w' ⟨rfl, h2⟩
          exact ⟨rfl, h.trans (h2.mono h.size), (Hc.out _ (h'.trans (h2.mono h'.size))).1⟩
        have Hdr := Lib.hid ((Below.refl w4.heap.size w4).drew)
        obtain ⟨p2, hp⟩ : ∃ p2, p2 = 2 ^ d := ⟨_, rfl⟩
        rw [← hp] at hp1 hp2
        have hpi : (2 : Int) ^ d = (p2 : Int) := by rw [hp]; simp
        have hss : (s + 1) * (s + 1) ≤ 121 * 121 := Nat.mul_le_mul (by omega) (by omega)
        have hwp : IntKind.i64.wrap ((p2 : Nat) : Int) = (p2 : Int) := IntWalk.i64_in _ (by omega)
        have hmu : ((s : Int) + 1) * ((s : Int) + 1) = (((s + 1) * (s + 1) : Nat) : Int) := by simp
        obtain ⟨sq, hsq⟩ : ∃ sq, sq = (s + 1) * (s + 1) := ⟨_, rfl⟩
        rw [← hsq] at hp2 hss hmu
        have hwq2 : IntKind.i64.wrap (sq : Int) = (sq : Int) := IntWalk.i64_in _ (by omega)
        clear hsq hp
        have g1 : decide ((d : Int) < 0) = false := decide_eq_false (by omega)
        have g2 : decide ((40 : Int) < (d : Int)) = false := decide_eq_false (by omega)
        have g3 : decide (p2 ≤ s) = false := decide_eq_false (by omega)
        have g4 : decide (sq < p2) = false := decide_eq_false (by omega)
        have hw1 : IntKind.i64.wrap ((s : Int) + 1) = (s : Int) + 1 := IntWalk.i64_in _ (by omega)
        obtain ⟨z, hz1, hz2⟩ : ∃ z : Bool, ((d : Int) == 0) = z ∧ ((s : Int) == 0) = z := by
          by_cases h : d = 0
          · have h2 := hz0.1 h; exact ⟨true, by simp [h], by simp [h2]⟩
          · have h2 : s ≠ 0 := fun h3 => h (hz0.2 h3)
            exact ⟨false, by simp [h], by simp [h2]⟩
        go_wp2_with fail
        go_region_held3 (fun w' => w'.cell? ⟨w2.heap.size, 0, none⟩ = some (.pointer r)) (first | exact c4 | exact cb4 | exact cb3 | exact cb2 | exact cb1)
          (first
            | (go_at_call 16; (with_reducible refine (HSz.out _ Hdr.out).mono ?_); rintro e w1 ⟨rfl, hb1, cb1⟩)
            | (go_at_call 16; (with_reducible refine (HSz.out _ hb1).mono ?_); rintro e w2 ⟨rfl, hb2, cb2⟩)
            | (go_at_call 16; (with_reducible refine (HSz.out _ hb2).mono ?_); rintro e w3 ⟨rfl, hb3, cb3⟩)
            | (go_at_call 16; (with_reducible refine (HSz.out _ hb3).mono ?_); rintro e w5 ⟨rfl, hb4, cb4⟩))
        have HX := Lib.hid (Hc.out _ (Hb4.out.trans (hb4.mono Hb4.out.size)))
        have Hown := Lib.hid (own_below hrel.out.own HX.out.2.2)
        have hbs : w.heap.size ≤ w5.heap.size := by have := hrel.out.bel.size; have := HX.out.2.2.size; omega
        have hbs2 : Hid (∀ o, w.heap.size ≤ (w5.alloc o).heap.size) := fun o => by simp; omega
        have g63 : k + 1 + 1 ≤ maxLen := by simp only [maxLen]; omega
        have gby : (k + 1 + 1) * 8 ≤ 140737488355328 := by omega
        have Hhk := Lib.hid hk1
        have HP : Hid (∀ o v2 w6, (w5.alloc o).grownBy w6 (Value.slice A3 (k + 1) c3).ownBlock → w6.ownsRow w.heap.size 27 1 v2 (k + 1 + 1) (ps.map Value.pointer ++ [.pointer r]) → DepRel w os (k + 1) v2 (ps ++ [r]) (ts ++ [T]) w6) := fun o v2 w6 hg ho =>
          hrel.out.push Hhk.out (HX.out.2.2.alloc HX.out.2.2.size o) (HX.out.2.1.below ((Below.refl _ _).alloc (Nat.le_refl _) o)) Hfine.out hg ho
        clear hb1 hb2 hb3 hb4 cb1 cb2 cb3 g1 g2 g3 g4 hw1 hz1 hz2 hwp hwq2 hpi hmu hss hp1 hp2 hz0 HSz Hdr HX hk1
        go_wp2_with (at_builtin; go_must (refine wpList_append_own _ rfl (.tmp 58) (.tmp 60) 28 rfl w.heap.size 27 i0 (.agg #[.pointer none]) 1 8 Try.underlying28 hi0 iz0 iz1 iz2 rfl (by decide) _ _ _ rfl (Hown.out.alloc _) ⟨w5.heap.size, 0, none⟩ 1 1 [.pointer r] rfl rfl (fun j u hu => ptr_new1 _ _ _ hu) (one_ptr1 _) g63 gby (hbs2.out _) ?_); intro v2 w6 hown3 hgrow3 _)
        go_light
        exact ⟨⟨k + 1, _, _, by omega, by go_num, HP.out _ _ _ hgrow3 hown3⟩, by simp [intOf]; omega⟩
      · obtain rfl : k = m := by omega
        go_wp2_with fail
        refine (awake12_any wr).mono ?_
        rintro e w2 ⟨rfl, hb2⟩
        have Hb2 := Lib.hid (hrel.out.bel.trans (hb2.mono hrel.out.bel.size))
        clear hb2
        go_wp2
        go_ret
        exact ⟨rfl, Hb2.out⟩
end Go.Proofs.Ytimgnmlcgnibhaa.Tok
