/- The law of the histories, walked. -/
import Derived.Test.YtefhnacbgpbdhaaHistRel
import Derived.Test.YtefhnacbgpbdhaaAwake12
namespace Go.Proofs.Ytefhnacbgpbdhaa.Tok
open Go.RowKit Go.Proofs.Ytefhnacbgpbdhaa

theorem HR.mid {base : Nat} {w0 wr w1 : World} {q9 g gi c : Nat} {vs : List Int} {cur gr cr : Nat} (h : HR base w0 q9 wr g gi c vs cur gr cr) (b1 : ButAt [g, gi] wr w1) :
    w1.heap[q9]? = some (.cells #[.slice (some ⟨gr, 0, none⟩) vs.length cr, .int .i64 (cur : Nat)] 66 (0, 0)) ∧ w1.ownsRow base 3 1 (.slice (some ⟨gr, 0, none⟩) vs.length cr) vs.length (vs.map (Value.int .i64)) := by
  obtain ⟨a1, a2, a3, a4⟩ := h.apart
  refine ⟨(b1.block q9 (row_lt h.row9) (by simp; exact ⟨fun e => a1 e.symm, fun e => a2 e.symm⟩)).trans h.row9, own_but h.own9 b1 ?_⟩
  simp
  exact ⟨a4, fun e => h.ne e.symm⟩
theorem HR.next' {base : Nat} {w0 wr w1 w2 : World} {q9 g gi c : Nat} {vs : List Int} {cur gr cr : Nat} (h : HR base w0 q9 wr g gi c vs cur gr cr) {g1 gi1 c1 : Nat} {vs1 : List Int} {cur1 gr2 cr2 n1 : Nat} (hn : vs1.length = n1) (b1 : ButAt [g, gi] wr w1) (h1 : Hist base w1 g1 gi1 c1 vs1 cur1) (hgi : gi1 = gi ∨ wr.heap.size ≤ gi1)
    (b2 : Below w1.heap.size w1 w2) (o2 : w2.ownsRow base 3 1 (.slice (some ⟨gr2, 0, none⟩) n1 cr2) n1 (vs1.map (Value.int .i64))) (hgr : gr2 = gr ∨ w1.heap.size ≤ gr2) :
    w2.heap[q9]? = some (.cells #[.slice (some ⟨gr, 0, none⟩) vs.length cr, .int .i64 (cur : Nat)] 66 (0, 0)) ∧ HR base w0 q9 (w2.setRow q9 #[.slice (some ⟨gr2, 0, none⟩) n1 cr2, .int .i64 (cur1 : Nat)]) g1 gi1 c1 vs1 cur1 gr2 cr2 := by
  subst hn
  exact h.next b1 h1 hgi b2 o2 hgr
theorem HR.start {w wr w1 : World} {g gi c : Nat} {x : Int} (hb : Below w.heap.size w wr) (h : Hist wr.heap.size w1 g gi c [x] 0) (h1 : Below wr.heap.size wr w1) :
    HR w.heap.size w (w1.heap.size + 1) ((w1.alloc (.cells #[.int .i64 x] 3)).alloc (.cells #[.slice (some ⟨w1.heap.size, 0, none⟩) 1 1, .int .i64 0] 66)) g gi c [x] 0 w1.heap.size 1 := by
  have hs := hb.size
  have hs1 := h1.size
  have hgi := h.gilt
  have hb2 : Below w1.heap.size w1 ((w1.alloc (.cells #[.int .i64 x] 3)).alloc (.cells #[.slice (some ⟨w1.heap.size, 0, none⟩) 1 1, .int .i64 0] 66)) := ((Below.refl _ _).alloc (Nat.le_refl _) _).alloc (by simp) _
  refine ⟨(h.mono hs).below hb2, ptr_alloc_2 _ _ _, (World.ownsRow_lit (base := w.heap.size) (e := 3) (size := 1) w1 #[.int .i64 x] 1 (by omega) (by decide) (by simp)).alloc _, by omega, (hb.trans (h1.mono hs)).trans (hb2.mono (by omega)), by simp; omega, by omega⟩

set_option maxHeartbeats 6400000 in
set_option maxRecDepth 8000 in
theorem law_hist (first : Int) (A : Option Addr) (n hc : Nat) (ms : List MvT) (w : World) (hnm : n ≤ maxLen) (hq : ∀ o ∈ ms, MvOk o) (hh : Rd w w.heap.size 3 A n (ms.flatMap mvV)) :
    Calls Try.prog 7 #[.int .i64 first, .slice A n hc] w fun e w' => e = .returned (.bool true) ∧ Below w.heap.size w w' := by
  have hlen : ms.length = n := by have := hh.len; rw [flatN_len 3 mvV (fun _ => rfl)] at this; omega
  have Hlen := Lib.hid hlen
  have Hh := Lib.hid hh
  have Hq := Lib.hid hq
  have hnm' : n ≤ 9223372036854775807 := hnm
  clear hlen hq hh hnm
  go_enter Try.func7, Try.ntmps7
  go_wp2
  go_loopw [5, 22] (fun v i wr => ∃ (k : Nat) (z : Int), k ≤ n ∧ i = .int .i64 k ∧ v = .int .i64 z ∧ Below w.heap.size w wr) (fun _ i _ => n - (intOf i).toNat)
  case atStart => exact ⟨0, 0, Nat.zero_le _, rfl, rfl, Below.refl _ _⟩
  case round =>
    obtain ⟨k, z, hk, rfl, rfl, hb⟩ := hrel
    have Hb := Lib.hid hb
    by_cases hlt : k < n
    · obtain ⟨b, off, rfl, hbb, hcc⟩ := Hh.out.pos (by omega)
      have hk1 : k < ms.length := by have := Hlen.out; omega
      have hcell0 := (hb.cell (p := ⟨b, off + k * 3, none⟩) hbb).trans (hcc (k * 3) _ ((flatN 3 mvV (fun _ => rfl) ms k 0 hk1 (by omega)).trans rfl))
      have hcell1 := (hb.cell (p := ⟨b, off + (k * 3 + 1), none⟩) hbb).trans (hcc (k * 3 + 1) _ ((flatN 3 mvV (fun _ => rfl) ms k 1 hk1 (by omega)).trans rfl))
      have hcell2 := (hb.cell (p := ⟨b, off + (k * 3 + 2), none⟩) hbb).trans (hcc (k * 3 + 2) _ ((flatN 3 mvV (fun _ => rfl) ms k 2 hk1 (by omega)).trans rfl))
      rw [← Nat.add_assoc] at hcell1 hcell2
      have hox := Hq.out _ (List.getElem_mem hk1)
      obtain ⟨x, hx⟩ : ∃ x, x = ms[k] := ⟨_, rfl⟩
      rw [← hx] at hcell0 hcell1 hcell2 hox
      clear hx hcc hb
      obtain ⟨xk, xt, xv⟩ := x
      obtain ⟨hx1, hx2⟩ := hox
      simp only at hcell0 hcell1 hcell2 hx1 hx2
      have hmt : ((xt : Int) % 1100) = ((xt % 1100 : Nat) : Int) := by omega
      obtain ⟨t, ht⟩ : ∃ t, t = xt % 1100 := ⟨_, rfl⟩
      have htl : t < 1100 := by omega
      rw [← ht] at hmt
      have hw2 : IntKind.i64.wrap ((t : Int) + 1) = (t : Int) + 1 := IntWalk.i64_in _ (by omega)
      obtain ⟨y, hy⟩ : ∃ y, IntKind.i64.wrap (z + ((t : Int) + 1)) = y := ⟨_, rfl⟩
      clear ht
      go_wp2
      go_light
      exact ⟨⟨k + 1, y, by omega, by go_num, by first | rfl | rw [hy] | simp [hy], Hb.out.alloc Hb.out.size _⟩, by simp [intOf]; omega⟩
    · obtain rfl : k = n := by omega
      clear hb hk
      have hcs : (¬ k ≤ 40 ∨ 2500 < z) ∨ (k ≤ 40 ∧ z ≤ 2500) := by omega
      rcases hcs with hc1 | ⟨hc1, hc2⟩
      · by_cases hk40 : k ≤ 40
        · have g1 : decide (40 < k) = false := decide_eq_false (by omega)
          have g2 : decide ((40 : Int) < (k : Int)) = false := decide_eq_false (by omega)
          have g3 : decide ((2500 : Int) < z) = true := decide_eq_true (by omega)
          clear hc1
          go_wp2_with fail
          refine (awake12_any wr).mono ?_
          rintro e w2 ⟨rfl, hb2⟩
          have Hb2 := Lib.hid (Hb.out.trans (hb2.mono Hb.out.size))
          clear hb2
          go_wp2
          go_ret
          exact ⟨rfl, Hb2.out⟩
        · have g1 : decide (40 < k) = true := decide_eq_true (by omega)
          have g2 : decide ((40 : Int) < (k : Int)) = true := decide_eq_true (by omega)
          clear hc1
          go_wp2_with fail
          refine (awake12_any wr).mono ?_
          rintro e w2 ⟨rfl, hb2⟩
          have Hb2 := Lib.hid (Hb.out.trans (hb2.mono Hb.out.size))
          clear hb2
          go_wp2
          go_ret
          exact ⟨rfl, Hb2.out⟩
      · have g1 : decide (40 < k) = false := decide_eq_false (by omega)
        have g2 : decide ((40 : Int) < (k : Int)) = false := decide_eq_false (by omega)
        have g3 : decide ((2500 : Int) < z) = false := decide_eq_false (by omega)
        go_wp2_with fail
        refine (newH_any first wr).mono ?_
        rintro e w1 ⟨g0, gi0, c0, rfl, hH0, hb0⟩
        have Hst := Lib.hid (HR.start Hb.out hH0.out hb0)
        clear hH0 hb0 g1 g2 g3 hc2
        obtain ⟨q9, hq9⟩ : ∃ q, q = w1.heap.size + 1 := ⟨_, rfl⟩
        rw [← hq9] at Hst
        have Hq9 := Lib.hid hq9
        clear hq9
        go_wp2
        rw [← Hq9.out]
        go_loopw [8, 49] (fun hv i wx => ∃ (j g gi c cur gr cr : Nat) (vs : List Int), j ≤ k ∧ i = .int .i64 j ∧ hv = .pointer (some ⟨g, 0, none⟩) ∧ Hid (HR w.heap.size w q9 wx g gi c vs cur gr cr)) (fun _ i _ => k - (intOf i).toNat)
        case atStart => exact ⟨0, _, _, _, _, _, _, _, Nat.zero_le _, rfl, rfl, Hst.out⟩
        case round =>
          clear Hst Hq9
          obtain ⟨j, g, gi, c, cur, gr, cr, vs, hj, rfl, rfl, hR2⟩ := hrel
          by_cases hjt : j < k
          · obtain ⟨b, off, rfl, hbb, hcc⟩ := Hh.out.pos (by omega)
            have hk1 : j < ms.length := by have := Hlen.out; omega
            have hcell0 := (hR2.out.bel.cell (p := ⟨b, off + j * 3, none⟩) hbb).trans (hcc (j * 3) _ ((flatN 3 mvV (fun _ => rfl) ms j 0 hk1 (by omega)).trans rfl))
            have hcell1 := (hR2.out.bel.cell (p := ⟨b, off + (j * 3 + 1), none⟩) hbb).trans (hcc (j * 3 + 1) _ ((flatN 3 mvV (fun _ => rfl) ms j 1 hk1 (by omega)).trans rfl))
            have hcell2 := (hR2.out.bel.cell (p := ⟨b, off + (j * 3 + 2), none⟩) hbb).trans (hcc (j * 3 + 2) _ ((flatN 3 mvV (fun _ => rfl) ms j 2 hk1 (by omega)).trans rfl))
            rw [← Nat.add_assoc] at hcell1 hcell2
            have hox := Hq.out _ (List.getElem_mem hk1)
            obtain ⟨x, hx⟩ : ∃ x, x = ms[j] := ⟨_, rfl⟩
            rw [← hx] at hcell0 hcell1 hcell2 hox
            clear hx hcc
            obtain ⟨xk, xt, xv⟩ := x
            obtain ⟨hx1, hx2⟩ := hox
            simp only at hcell0 hcell1 hcell2 hx1 hx2
            have hmt : ((xt : Int) % 1100) = ((xt % 1100 : Nat) : Int) := by omega
            obtain ⟨t, ht⟩ : ∃ t, t = xt % 1100 := ⟨_, rfl⟩
            have htl : t < 1100 := by omega
            rw [← ht] at hmt
            have hw2 : IntKind.i64.wrap ((t : Int) + 1) = (t : Int) + 1 := IntWalk.i64_in _ (by omega)
            clear ht
            obtain ⟨q11, hq11⟩ : ∃ q, q = wr.heap.size := ⟨_, rfl⟩
            have Hst := Lib.hid (show HR w.heap.size w q9 (wr.alloc (.cells #[.int .u8 xk, .int .u16 xt, .int .i64 xv] 62)) g gi c vs cur gr cr from hR2.out.same ((Below.refl _ _).alloc (Nat.le_refl _) _))
            have Hrw := Lib.hid (show (wr.alloc (.cells #[.int .u8 xk, .int .u16 xt, .int .i64 xv] 62)).heap[q11]? = some (.cells #[.int .u8 xk, .int .u16 xt, .int .i64 xv] 62 (0, 0)) by rw [hq11]; exact heap_alloc_new _ _)
            have Hq11 := Lib.hid hq11
            clear hq11
            go_wp2
            rw [← Hq11.out]
            go_loopw [8, 58] (fun hv i wy => ∃ (l g gi c cur gr cr : Nat) (vs : List Int), l ≤ t + 1 ∧ i = .int .i64 l ∧ hv = .pointer (some ⟨g, 0, none⟩) ∧ Hid (HR w.heap.size w q9 wy g gi c vs cur gr cr) ∧ Hid (wy.heap[q11]? = some (.cells #[.int .u8 xk, .int .u16 xt, .int .i64 xv] 62 (0, 0)))) (fun _ i _ => (t + 1) - (intOf i).toNat)
            case atStart => exact ⟨0, _, _, _, _, _, _, _, Nat.zero_le _, rfl, rfl, Hst.out, Hrw.out⟩
            case round =>
              clear Hst Hrw Hq11 hR2 hcell0 hcell1 hcell2
              obtain ⟨l, g, gi, c, cur, gr, cr, vs, hl, rfl, rfl, hrel, hrow⟩ := hrel
              by_cases hlt2 : l < t + 1
              · clear hmt
                have k0 := (cell_of_row _ _ 0 _ _ _ hrow.out).trans (rfl : _ = some (Value.int .u8 (xk : Nat)))
                have k2 := (cell_of_row _ _ 2 _ _ _ hrow.out).trans (rfl : _ = some (Value.int .i64 xv))
                have hlt := hrel.out.hist.lt
                have hle := hrel.out.hist.le
                have hap : Hid (q11 ≠ g ∧ q11 ≠ gi ∧ q11 ≠ q9 ∧ q11 ≠ gr) := by
                  have e0 := hrow.out
                  have e1 := hrel.out.hist.row
                  obtain ⟨cu2, e2⟩ := hrel.out.hist.irow
                  have e3 := hrel.out.row9
                  obtain ⟨⟨cu4, e4⟩, _⟩ := own_row hrel.out.own9
                  refine ⟨?_, ?_, ?_, ?_⟩ <;> rintro rfl
                  · rw [e0] at e1; simp at e1
                  · rw [e0] at e2; simp at e2
                  · rw [e0] at e3; simp at e3
                  · rw [e0] at e4; simp at e4
                obtain ⟨m, hm⟩ : ∃ m, m = xk % 6 := ⟨_, rfl⟩
                have hmi : ((xk : Int) % 6) = (m : Int) := by omega
                have hcs : m = 0 ∨ m = 1 ∨ m = 2 ∨ m = 3 ∨ m = 4 ∨ m = 5 := by omega
                clear hm
                rcases hcs with rfl | rfl | rfl | rfl | rfl | rfl
                · go_wp2_with fail
                  refine (commitH_any w.heap.size g gi c vs cur xv wr hrel.out.hist).mono ?_
                  rintro e w1 (⟨h9, rfl, hw⟩ | ⟨h9, rfl, gi1, c1, hH1, hB1, hG1⟩)
                  · have h9' := Lib.hid h9
                    clear h9
                    obtain rfl := hw.symm
                    clear hw
                    have d0 : wr.cell? ⟨q9, 0, none⟩ = some (.slice (some ⟨gr, 0, none⟩) vs.length cr) := (cell_of_row _ _ 0 _ _ _ (hrel.out.row9)).trans rfl
                    have d1 : wr.cell? ⟨q9, 1, none⟩ = some (.int .i64 (cur : Nat)) := (cell_of_row _ _ 1 _ _ _ (hrel.out.row9)).trans rfl
                    go_wp2_with fail
                    refine (rcommit_any gr vs.length cr cur w.heap.size vs xv wr rfl hlt hle hrel.out.own9).mono ?_
                    rintro e w2 ⟨⟨h99, rfl⟩ | ⟨h99, _⟩, HB2⟩
                    · clear h99
                      have HN := Lib.hid (hrel.out.next' rfl (ButAt.refl _ _) hrel.out.hist (.inl rfl) HB2.out (own_but hrel.out.own9 (ButAt.of (bs := []) HB2.out) (by simp)) (.inl rfl))
                      have HQ2 : Hid (w2.heap[q11]? = some (.cells #[.int .u8 xk, .int .u16 xt, .int .i64 xv] 62 (0, 0))) := by
                        have e1 := (ButAt.refl [g, gi] wr).block q11 (row_lt hrow.out) (by have := hap.out; simp; exact ⟨this.1, this.2.1⟩)
                        exact (((HB2.out).block q11 (row_lt (e1.trans hrow.out))).trans e1).trans hrow.out
                      clear d0 d1 HB2
                      go_wp2_with (refine wpList_store_row rfl 66 (.tmp 9) (.tmp 81) rfl q9 #[.slice (some ⟨gr, 0, none⟩) vs.length cr, .int .i64 (cur : Nat)] rfl rfl 66 #[.slice (some ⟨gr, 0, none⟩) vs.length cr, .int .i64 (cur : Nat)] HN.out.1 sizeHist rfl (one_hist _ _ _ _) ?_)
                      generalize hw3 : World.setRow w2 _ _ = w3
                      obtain ⟨gin, cn, vsn, cu, grn, crn, HR3⟩ : ∃ gin cn vsn cu grn crn, Hid (HR w.heap.size w q9 w3 g gin cn vsn cu grn crn) := by subst hw3; exact ⟨_, _, _, _, _, _, HN.out.2⟩
                      have HQ3 : Hid (w3.heap[q11]? = some (.cells #[.int .u8 xk, .int .u16 xt, .int .i64 xv] 62 (0, 0))) := by subst hw3; exact (setRow_other _ _ _ _ hap.out.2.2.1).trans HQ2.out
                      clear hw3 HN HQ2
                      clear hrel hrow hlt hle k0 k2 hmi
                      obtain ⟨x, hx⟩ : ∃ x, vsn[cu]? = some x := ⟨_, List.getElem?_eq_getElem HR3.out.hist.lt⟩
                      refine (current_any w.heap.size g gin cn vsn cu x w3 HR3.out.hist hx).mono ?_
                      rintro e w4 ⟨rfl, q, rfl⟩
                      have HR4 := Lib.hid (HR3.out.same (below_drewN (Below.refl _ _) q))
                      have HQ4 : Hid ((w3.drewN q).heap[q11]? = some (.cells #[.int .u8 xk, .int .u16 xt, .int .i64 xv] 62 (0, 0))) := HQ3
                      generalize w3.drewN q = w4 at HR4 HQ4 ⊢
                      have t0 : w4.cell? ⟨q9, 0, none⟩ = some (.slice (some ⟨grn, 0, none⟩) vsn.length crn) := (cell_of_row _ _ 0 _ _ _ HR4.out.row9).trans rfl
                      have t1 : w4.cell? ⟨q9, 1, none⟩ = some (.int .i64 (cu : Nat)) := (cell_of_row _ _ 1 _ _ _ HR4.out.row9).trans rfl
                      have t2 : w4.cell? ⟨grn, cu, none⟩ = some (.int .i64 x) := (HR4.out.own9.cellAt cu (by have := HR4.out.hist.lt; omega)).trans (by rw [List.getElem?_map, hx]; rfl)
                      have t3 := HR4.out.hist.lt
                      have t4 := HR4.out.hist.le
                      obtain ⟨nn, hnn⟩ : ∃ nn, nn = vsn.length := ⟨_, rfl⟩
                      rw [← hnn] at t0 t3 t4
                      clear hnn hx
                      go_wp2
                      go_light
                      exact ⟨⟨l + 1, g, gin, cn, cu, grn, crn, vsn, by omega, by go_num, rfl, HR4.out, HQ4.out⟩, by simp [intOf]; omega⟩
                    · exact absurd h99 (by have := h9'.out; omega)
                  · have h9' := Lib.hid h9
                    clear h9
                    obtain ⟨vs1, hvs⟩ : ∃ v, v = vs.take (cur + 1) ++ [xv] := ⟨_, rfl⟩
                    have hn1 : Hid (vs1.length = cur + 1 + 1) := by show _ = _; rw [hvs]; simp; omega
                    rw [← hvs] at hH1
                    have Hvs := Lib.hid hvs
                    clear hvs
                    have HM := Lib.hid (hrel.out.mid hB1.out)
                    have d0 : w1.cell? ⟨q9, 0, none⟩ = some (.slice (some ⟨gr, 0, none⟩) vs.length cr) := (cell_of_row _ _ 0 _ _ _ (HM.out.1)).trans rfl
                    have d1 : w1.cell? ⟨q9, 1, none⟩ = some (.int .i64 (cur : Nat)) := (cell_of_row _ _ 1 _ _ _ (HM.out.1)).trans rfl
                    have k2' : w1.cell? ⟨q11, 2, none⟩ = some (Value.int .i64 xv) := (cell_of_row _ _ 2 _ _ _ ((hB1.out.block q11 (row_lt hrow.out) (by have := hap.out; simp; exact ⟨this.1, this.2.1⟩)).trans hrow.out)).trans rfl
                    go_wp2_with fail
                    refine (rcommit_any gr vs.length cr cur w.heap.size vs xv w1 rfl hlt hle HM.out.2).mono ?_
                    rintro e w2 ⟨⟨h99, rfl⟩ | ⟨h99, gr2, cr2, rfl, ho2⟩, HB2⟩
                    · exact absurd h99 (by have := h9'.out; omega)
                    · have HN := Lib.hid (hrel.out.next' hn1.out hB1.out hH1.out hG1.out HB2.out (by rw [Hvs.out]; exact own_mono ho2.out (by have := hrel.out.bas; have := hB1.out.size; omega)) (.inr (own_row ho2.out).2.1))
                      have HQ2 : Hid (w2.heap[q11]? = some (.cells #[.int .u8 xk, .int .u16 xt, .int .i64 xv] 62 (0, 0))) := by
                        have e1 := (hB1.out).block q11 (row_lt hrow.out) (by have := hap.out; simp; exact ⟨this.1, this.2.1⟩)
                        exact (((HB2.out).block q11 (row_lt (e1.trans hrow.out))).trans e1).trans hrow.out
                      clear d0 d1 k2' HB2 HM hH1 hB1 hG1 hn1 Hvs
                      go_wp2_with (refine wpList_store_row rfl 66 (.tmp 9) (.tmp 81) rfl q9 #[.slice (some ⟨gr2, 0, none⟩) (cur + 1 + 1) cr2, .int .i64 ((cur + 1 : Nat) : Int)] rfl rfl 66 #[.slice (some ⟨gr, 0, none⟩) vs.length cr, .int .i64 (cur : Nat)] HN.out.1 sizeHist rfl (one_hist _ _ _ _) ?_)
                      generalize hw3 : World.setRow w2 _ _ = w3
                      obtain ⟨gin, cn, vsn, cu, grn, crn, HR3⟩ : ∃ gin cn vsn cu grn crn, Hid (HR w.heap.size w q9 w3 g gin cn vsn cu grn crn) := by subst hw3; exact ⟨_, _, _, _, _, _, HN.out.2⟩
                      have HQ3 : Hid (w3.heap[q11]? = some (.cells #[.int .u8 xk, .int .u16 xt, .int .i64 xv] 62 (0, 0))) := by subst hw3; exact (setRow_other _ _ _ _ hap.out.2.2.1).trans HQ2.out
                      clear hw3 HN HQ2
                      clear hrel hrow hlt hle k0 k2 hmi
                      obtain ⟨x, hx⟩ : ∃ x, vsn[cu]? = some x := ⟨_, List.getElem?_eq_getElem HR3.out.hist.lt⟩
                      refine (current_any w.heap.size g gin cn vsn cu x w3 HR3.out.hist hx).mono ?_
                      rintro e w4 ⟨rfl, q, rfl⟩
                      have HR4 := Lib.hid (HR3.out.same (below_drewN (Below.refl _ _) q))
                      have HQ4 : Hid ((w3.drewN q).heap[q11]? = some (.cells #[.int .u8 xk, .int .u16 xt, .int .i64 xv] 62 (0, 0))) := HQ3
                      generalize w3.drewN q = w4 at HR4 HQ4 ⊢
                      have t0 : w4.cell? ⟨q9, 0, none⟩ = some (.slice (some ⟨grn, 0, none⟩) vsn.length crn) := (cell_of_row _ _ 0 _ _ _ HR4.out.row9).trans rfl
                      have t1 : w4.cell? ⟨q9, 1, none⟩ = some (.int .i64 (cu : Nat)) := (cell_of_row _ _ 1 _ _ _ HR4.out.row9).trans rfl
                      have t2 : w4.cell? ⟨grn, cu, none⟩ = some (.int .i64 x) := (HR4.out.own9.cellAt cu (by have := HR4.out.hist.lt; omega)).trans (by rw [List.getElem?_map, hx]; rfl)
                      have t3 := HR4.out.hist.lt
                      have t4 := HR4.out.hist.le
                      obtain ⟨nn, hnn⟩ : ∃ nn, nn = vsn.length := ⟨_, rfl⟩
                      rw [← hnn] at t0 t3 t4
                      clear hnn hx
                      go_wp2
                      go_light
                      exact ⟨⟨l + 1, g, gin, cn, cu, grn, crn, vsn, by omega, by go_num, rfl, HR4.out, HQ4.out⟩, by simp [intOf]; omega⟩
                · go_wp2_with fail
                  refine (commitH_any w.heap.size g gi c vs cur xv wr hrel.out.hist).mono ?_
                  rintro e w1 (⟨h9, rfl, hw⟩ | ⟨h9, rfl, gi1, c1, hH1, hB1, hG1⟩)
                  · have h9' := Lib.hid h9
                    clear h9
                    obtain rfl := hw.symm
                    clear hw
                    have d0 : wr.cell? ⟨q9, 0, none⟩ = some (.slice (some ⟨gr, 0, none⟩) vs.length cr) := (cell_of_row _ _ 0 _ _ _ (hrel.out.row9)).trans rfl
                    have d1 : wr.cell? ⟨q9, 1, none⟩ = some (.int .i64 (cur : Nat)) := (cell_of_row _ _ 1 _ _ _ (hrel.out.row9)).trans rfl
                    go_wp2_with fail
                    refine (rcommit_any gr vs.length cr cur w.heap.size vs xv wr rfl hlt hle hrel.out.own9).mono ?_
                    rintro e w2 ⟨⟨h99, rfl⟩ | ⟨h99, _⟩, HB2⟩
                    · clear h99
                      have HN := Lib.hid (hrel.out.next' rfl (ButAt.refl _ _) hrel.out.hist (.inl rfl) HB2.out (own_but hrel.out.own9 (ButAt.of (bs := []) HB2.out) (by simp)) (.inl rfl))
                      have HQ2 : Hid (w2.heap[q11]? = some (.cells #[.int .u8 xk, .int .u16 xt, .int .i64 xv] 62 (0, 0))) := by
                        have e1 := (ButAt.refl [g, gi] wr).block q11 (row_lt hrow.out) (by have := hap.out; simp; exact ⟨this.1, this.2.1⟩)
                        exact (((HB2.out).block q11 (row_lt (e1.trans hrow.out))).trans e1).trans hrow.out
                      clear d0 d1 HB2
                      go_wp2_with (refine wpList_store_row rfl 66 (.tmp 9) (.tmp 81) rfl q9 #[.slice (some ⟨gr, 0, none⟩) vs.length cr, .int .i64 (cur : Nat)] rfl rfl 66 #[.slice (some ⟨gr, 0, none⟩) vs.length cr, .int .i64 (cur : Nat)] HN.out.1 sizeHist rfl (one_hist _ _ _ _) ?_)
                      generalize hw3 : World.setRow w2 _ _ = w3
                      obtain ⟨gin, cn, vsn, cu, grn, crn, HR3⟩ : ∃ gin cn vsn cu grn crn, Hid (HR w.heap.size w q9 w3 g gin cn vsn cu grn crn) := by subst hw3; exact ⟨_, _, _, _, _, _, HN.out.2⟩
                      have HQ3 : Hid (w3.heap[q11]? = some (.cells #[.int .u8 xk, .int .u16 xt, .int .i64 xv] 62 (0, 0))) := by subst hw3; exact (setRow_other _ _ _ _ hap.out.2.2.1).trans HQ2.out
                      clear hw3 HN HQ2
                      clear hrel hrow hlt hle k0 k2 hmi
                      obtain ⟨x, hx⟩ : ∃ x, vsn[cu]? = some x := ⟨_, List.getElem?_eq_getElem HR3.out.hist.lt⟩
                      refine (current_any w.heap.size g gin cn vsn cu x w3 HR3.out.hist hx).mono ?_
                      rintro e w4 ⟨rfl, q, rfl⟩
                      have HR4 := Lib.hid (HR3.out.same (below_drewN (Below.refl _ _) q))
                      have HQ4 : Hid ((w3.drewN q).heap[q11]? = some (.cells #[.int .u8 xk, .int .u16 xt, .int .i64 xv] 62 (0, 0))) := HQ3
                      generalize w3.drewN q = w4 at HR4 HQ4 ⊢
                      have t0 : w4.cell? ⟨q9, 0, none⟩ = some (.slice (some ⟨grn, 0, none⟩) vsn.length crn) := (cell_of_row _ _ 0 _ _ _ HR4.out.row9).trans rfl
                      have t1 : w4.cell? ⟨q9, 1, none⟩ = some (.int .i64 (cu : Nat)) := (cell_of_row _ _ 1 _ _ _ HR4.out.row9).trans rfl
                      have t2 : w4.cell? ⟨grn, cu, none⟩ = some (.int .i64 x) := (HR4.out.own9.cellAt cu (by have := HR4.out.hist.lt; omega)).trans (by rw [List.getElem?_map, hx]; rfl)
                      have t3 := HR4.out.hist.lt
                      have t4 := HR4.out.hist.le
                      obtain ⟨nn, hnn⟩ : ∃ nn, nn = vsn.length := ⟨_, rfl⟩
                      rw [← hnn] at t0 t3 t4
                      clear hnn hx
                      go_wp2
                      go_light
                      exact ⟨⟨l + 1, g, gin, cn, cu, grn, crn, vsn, by omega, by go_num, rfl, HR4.out, HQ4.out⟩, by simp [intOf]; omega⟩
                    · exact absurd h99 (by have := h9'.out; omega)
                  · have h9' := Lib.hid h9
                    clear h9
                    obtain ⟨vs1, hvs⟩ : ∃ v, v = vs.take (cur + 1) ++ [xv] := ⟨_, rfl⟩
                    have hn1 : Hid (vs1.length = cur + 1 + 1) := by show _ = _; rw [hvs]; simp; omega
                    rw [← hvs] at hH1
                    have Hvs := Lib.hid hvs
                    clear hvs
                    have HM := Lib.hid (hrel.out.mid hB1.out)
                    have d0 : w1.cell? ⟨q9, 0, none⟩ = some (.slice (some ⟨gr, 0, none⟩) vs.length cr) := (cell_of_row _ _ 0 _ _ _ (HM.out.1)).trans rfl
                    have d1 : w1.cell? ⟨q9, 1, none⟩ = some (.int .i64 (cur : Nat)) := (cell_of_row _ _ 1 _ _ _ (HM.out.1)).trans rfl
                    have k2' : w1.cell? ⟨q11, 2, none⟩ = some (Value.int .i64 xv) := (cell_of_row _ _ 2 _ _ _ ((hB1.out.block q11 (row_lt hrow.out) (by have := hap.out; simp; exact ⟨this.1, this.2.1⟩)).trans hrow.out)).trans rfl
                    go_wp2_with fail
                    refine (rcommit_any gr vs.length cr cur w.heap.size vs xv w1 rfl hlt hle HM.out.2).mono ?_
                    rintro e w2 ⟨⟨h99, rfl⟩ | ⟨h99, gr2, cr2, rfl, ho2⟩, HB2⟩
                    · exact absurd h99 (by have := h9'.out; omega)
                    · have HN := Lib.hid (hrel.out.next' hn1.out hB1.out hH1.out hG1.out HB2.out (by rw [Hvs.out]; exact own_mono ho2.out (by have := hrel.out.bas; have := hB1.out.size; omega)) (.inr (own_row ho2.out).2.1))
                      have HQ2 : Hid (w2.heap[q11]? = some (.cells #[.int .u8 xk, .int .u16 xt, .int .i64 xv] 62 (0, 0))) := by
                        have e1 := (hB1.out).block q11 (row_lt hrow.out) (by have := hap.out; simp; exact ⟨this.1, this.2.1⟩)
                        exact (((HB2.out).block q11 (row_lt (e1.trans hrow.out))).trans e1).trans hrow.out
                      clear d0 d1 k2' HB2 HM hH1 hB1 hG1 hn1 Hvs
                      go_wp2_with (refine wpList_store_row rfl 66 (.tmp 9) (.tmp 81) rfl q9 #[.slice (some ⟨gr2, 0, none⟩) (cur + 1 + 1) cr2, .int .i64 ((cur + 1 : Nat) : Int)] rfl rfl 66 #[.slice (some ⟨gr, 0, none⟩) vs.length cr, .int .i64 (cur : Nat)] HN.out.1 sizeHist rfl (one_hist _ _ _ _) ?_)
                      generalize hw3 : World.setRow w2 _ _ = w3
                      obtain ⟨gin, cn, vsn, cu, grn, crn, HR3⟩ : ∃ gin cn vsn cu grn crn, Hid (HR w.heap.size w q9 w3 g gin cn vsn cu grn crn) := by subst hw3; exact ⟨_, _, _, _, _, _, HN.out.2⟩
                      have HQ3 : Hid (w3.heap[q11]? = some (.cells #[.int .u8 xk, .int .u16 xt, .int .i64 xv] 62 (0, 0))) := by subst hw3; exact (setRow_other _ _ _ _ hap.out.2.2.1).trans HQ2.out
                      clear hw3 HN HQ2
                      clear hrel hrow hlt hle k0 k2 hmi
                      obtain ⟨x, hx⟩ : ∃ x, vsn[cu]? = some x := ⟨_, List.getElem?_eq_getElem HR3.out.hist.lt⟩
                      refine (current_any w.heap.size g gin cn vsn cu x w3 HR3.out.hist hx).mono ?_
                      rintro e w4 ⟨rfl, q, rfl⟩
                      have HR4 := Lib.hid (HR3.out.same (below_drewN (Below.refl _ _) q))
                      have HQ4 : Hid ((w3.drewN q).heap[q11]? = some (.cells #[.int .u8 xk, .int .u16 xt, .int .i64 xv] 62 (0, 0))) := HQ3
                      generalize w3.drewN q = w4 at HR4 HQ4 ⊢
                      have t0 : w4.cell? ⟨q9, 0, none⟩ = some (.slice (some ⟨grn, 0, none⟩) vsn.length crn) := (cell_of_row _ _ 0 _ _ _ HR4.out.row9).trans rfl
                      have t1 : w4.cell? ⟨q9, 1, none⟩ = some (.int .i64 (cu : Nat)) := (cell_of_row _ _ 1 _ _ _ HR4.out.row9).trans rfl
                      have t2 : w4.cell? ⟨grn, cu, none⟩ = some (.int .i64 x) := (HR4.out.own9.cellAt cu (by have := HR4.out.hist.lt; omega)).trans (by rw [List.getElem?_map, hx]; rfl)
                      have t3 := HR4.out.hist.lt
                      have t4 := HR4.out.hist.le
                      obtain ⟨nn, hnn⟩ : ∃ nn, nn = vsn.length := ⟨_, rfl⟩
                      rw [← hnn] at t0 t3 t4
                      clear hnn hx
                      go_wp2
                      go_light
                      exact ⟨⟨l + 1, g, gin, cn, cu, grn, crn, vsn, by omega, by go_num, rfl, HR4.out, HQ4.out⟩, by simp [intOf]; omega⟩
                · go_wp2_with fail
                  refine (undoH_any w.heap.size g gi c vs cur wr hrel.out.hist).mono ?_
                  rintro e w1 (⟨h9, rfl, hw⟩ | ⟨kk, h9, rfl, hw⟩)
                  · have h9' := Lib.hid h9
                    clear h9
                    obtain rfl := hw.symm
                    clear hw
                    have d0 : wr.cell? ⟨q9, 0, none⟩ = some (.slice (some ⟨gr, 0, none⟩) vs.length cr) := (cell_of_row _ _ 0 _ _ _ (hrel.out.row9)).trans rfl
                    have d1 : wr.cell? ⟨q9, 1, none⟩ = some (.int .i64 (cur : Nat)) := (cell_of_row _ _ 1 _ _ _ (hrel.out.row9)).trans rfl
                    go_wp2_with fail
                    refine (rundo_any (some ⟨gr, 0, none⟩) vs.length cr cur wr (by omega)).mono ?_
                    rintro e w2 ⟨⟨h99, rfl⟩ | ⟨k3, h99, rfl⟩, hb2'⟩
                    all_goals have HB2 := Lib.hid hb2'; clear hb2'
                    · clear h99
                      have HN := Lib.hid (hrel.out.next' rfl (ButAt.refl _ _) hrel.out.hist (.inl rfl) HB2.out (own_but hrel.out.own9 (ButAt.of (bs := []) HB2.out) (by simp)) (.inl rfl))
                      have HQ2 : Hid (w2.heap[q11]? = some (.cells #[.int .u8 xk, .int .u16 xt, .int .i64 xv] 62 (0, 0))) := by
                        have e1 := (ButAt.refl [g, gi] wr).block q11 (row_lt hrow.out) (by have := hap.out; simp; exact ⟨this.1, this.2.1⟩)
                        exact (((HB2.out).block q11 (row_lt (e1.trans hrow.out))).trans e1).trans hrow.out
                      clear d0 d1 HB2
                      go_wp2_with (refine wpList_store_row rfl 66 (.tmp 9) (.tmp 90) rfl q9 #[.slice (some ⟨gr, 0, none⟩) vs.length cr, .int .i64 (cur : Nat)] rfl rfl 66 #[.slice (some ⟨gr, 0, none⟩) vs.length cr, .int .i64 (cur : Nat)] HN.out.1 sizeHist rfl (one_hist _ _ _ _) ?_)
                      generalize hw3 : World.setRow w2 _ _ = w3
                      obtain ⟨gin, cn, vsn, cu, grn, crn, HR3⟩ : ∃ gin cn vsn cu grn crn, Hid (HR w.heap.size w q9 w3 g gin cn vsn cu grn crn) := by subst hw3; exact ⟨_, _, _, _, _, _, HN.out.2⟩
                      have HQ3 : Hid (w3.heap[q11]? = some (.cells #[.int .u8 xk, .int .u16 xt, .int .i64 xv] 62 (0, 0))) := by subst hw3; exact (setRow_other _ _ _ _ hap.out.2.2.1).trans HQ2.out
                      clear hw3 HN HQ2
                      clear hrel hrow hlt hle k0 k2 hmi
                      obtain ⟨x, hx⟩ : ∃ x, vsn[cu]? = some x := ⟨_, List.getElem?_eq_getElem HR3.out.hist.lt⟩
                      refine (current_any w.heap.size g gin cn vsn cu x w3 HR3.out.hist hx).mono ?_
                      rintro e w4 ⟨rfl, q, rfl⟩
                      have HR4 := Lib.hid (HR3.out.same (below_drewN (Below.refl _ _) q))
                      have HQ4 : Hid ((w3.drewN q).heap[q11]? = some (.cells #[.int .u8 xk, .int .u16 xt, .int .i64 xv] 62 (0, 0))) := HQ3
                      generalize w3.drewN q = w4 at HR4 HQ4 ⊢
                      have t0 : w4.cell? ⟨q9, 0, none⟩ = some (.slice (some ⟨grn, 0, none⟩) vsn.length crn) := (cell_of_row _ _ 0 _ _ _ HR4.out.row9).trans rfl
                      have t1 : w4.cell? ⟨q9, 1, none⟩ = some (.int .i64 (cu : Nat)) := (cell_of_row _ _ 1 _ _ _ HR4.out.row9).trans rfl
                      have t2 : w4.cell? ⟨grn, cu, none⟩ = some (.int .i64 x) := (HR4.out.own9.cellAt cu (by have := HR4.out.hist.lt; omega)).trans (by rw [List.getElem?_map, hx]; rfl)
                      have t3 := HR4.out.hist.lt
                      have t4 := HR4.out.hist.le
                      obtain ⟨nn, hnn⟩ : ∃ nn, nn = vsn.length := ⟨_, rfl⟩
                      rw [← hnn] at t0 t3 t4
                      clear hnn hx
                      go_wp2
                      go_light
                      exact ⟨⟨l + 1, g, gin, cn, cu, grn, crn, vsn, by omega, by go_num, rfl, HR4.out, HQ4.out⟩, by simp [intOf]; omega⟩
                    · exact absurd h99 (by have := h9'.out; omega)
                  · have h9' := Lib.hid h9
                    clear h9
                    have hB1 : Hid (ButAt [g, gi] wr w1) := by show ButAt _ _ _; rw [hw]; exact ButAt.setCell (by simp) _
                    have hH1 : Hid (Hist w.heap.size w1 g gi c vs (kk)) := by show Hist _ _ _ _ _ _ _; rw [hw]; exact hrel.out.hist.to (by have := h9'.out; omega)
                    clear hw
                    have HM := Lib.hid (hrel.out.mid hB1.out)
                    have d0 : w1.cell? ⟨q9, 0, none⟩ = some (.slice (some ⟨gr, 0, none⟩) vs.length cr) := (cell_of_row _ _ 0 _ _ _ (HM.out.1)).trans rfl
                    have d1 : w1.cell? ⟨q9, 1, none⟩ = some (.int .i64 (cur : Nat)) := (cell_of_row _ _ 1 _ _ _ (HM.out.1)).trans rfl
                    go_wp2_with fail
                    refine (rundo_any (some ⟨gr, 0, none⟩) vs.length cr cur w1 (by omega)).mono ?_
                    rintro e w2 ⟨⟨h99, rfl⟩ | ⟨k3, h99, rfl⟩, hb2'⟩
                    all_goals have HB2 := Lib.hid hb2'; clear hb2'
                    · exact absurd h99 (by have := h9'.out; omega)
                    · obtain rfl : k3 = kk := by have := h9'.out; omega
                      clear h99
                      have HN := Lib.hid (hrel.out.next' rfl hB1.out hH1.out (.inl rfl) HB2.out (own_but HM.out.2 (ButAt.of (bs := []) HB2.out) (by simp)) (.inl rfl))
                      have HQ2 : Hid (w2.heap[q11]? = some (.cells #[.int .u8 xk, .int .u16 xt, .int .i64 xv] 62 (0, 0))) := by
                        have e1 := (hB1.out).block q11 (row_lt hrow.out) (by have := hap.out; simp; exact ⟨this.1, this.2.1⟩)
                        exact (((HB2.out).block q11 (row_lt (e1.trans hrow.out))).trans e1).trans hrow.out
                      clear d0 d1 HB2 HM hH1 hB1
                      go_wp2_with (refine wpList_store_row rfl 66 (.tmp 9) (.tmp 90) rfl q9 #[.slice (some ⟨gr, 0, none⟩) vs.length cr, .int .i64 (k3 : Nat)] rfl rfl 66 #[.slice (some ⟨gr, 0, none⟩) vs.length cr, .int .i64 (cur : Nat)] HN.out.1 sizeHist rfl (one_hist _ _ _ _) ?_)
                      generalize hw3 : World.setRow w2 _ _ = w3
                      obtain ⟨gin, cn, vsn, cu, grn, crn, HR3⟩ : ∃ gin cn vsn cu grn crn, Hid (HR w.heap.size w q9 w3 g gin cn vsn cu grn crn) := by subst hw3; exact ⟨_, _, _, _, _, _, HN.out.2⟩
                      have HQ3 : Hid (w3.heap[q11]? = some (.cells #[.int .u8 xk, .int .u16 xt, .int .i64 xv] 62 (0, 0))) := by subst hw3; exact (setRow_other _ _ _ _ hap.out.2.2.1).trans HQ2.out
                      clear hw3 HN HQ2
                      clear hrel hrow hlt hle k0 k2 hmi
                      obtain ⟨x, hx⟩ : ∃ x, vsn[cu]? = some x := ⟨_, List.getElem?_eq_getElem HR3.out.hist.lt⟩
                      refine (current_any w.heap.size g gin cn vsn cu x w3 HR3.out.hist hx).mono ?_
                      rintro e w4 ⟨rfl, q, rfl⟩
                      have HR4 := Lib.hid (HR3.out.same (below_drewN (Below.refl _ _) q))
                      have HQ4 : Hid ((w3.drewN q).heap[q11]? = some (.cells #[.int .u8 xk, .int .u16 xt, .int .i64 xv] 62 (0, 0))) := HQ3
                      generalize w3.drewN q = w4 at HR4 HQ4 ⊢
                      have t0 : w4.cell? ⟨q9, 0, none⟩ = some (.slice (some ⟨grn, 0, none⟩) vsn.length crn) := (cell_of_row _ _ 0 _ _ _ HR4.out.row9).trans rfl
                      have t1 : w4.cell? ⟨q9, 1, none⟩ = some (.int .i64 (cu : Nat)) := (cell_of_row _ _ 1 _ _ _ HR4.out.row9).trans rfl
                      have t2 : w4.cell? ⟨grn, cu, none⟩ = some (.int .i64 x) := (HR4.out.own9.cellAt cu (by have := HR4.out.hist.lt; omega)).trans (by rw [List.getElem?_map, hx]; rfl)
                      have t3 := HR4.out.hist.lt
                      have t4 := HR4.out.hist.le
                      obtain ⟨nn, hnn⟩ : ∃ nn, nn = vsn.length := ⟨_, rfl⟩
                      rw [← hnn] at t0 t3 t4
                      clear hnn hx
                      go_wp2
                      go_light
                      exact ⟨⟨l + 1, g, gin, cn, cu, grn, crn, vsn, by omega, by go_num, rfl, HR4.out, HQ4.out⟩, by simp [intOf]; omega⟩
                · go_wp2_with fail
                  refine (redoH_any w.heap.size g gi c vs cur wr hrel.out.hist).mono ?_
                  rintro e w1 (⟨h9, rfl, hw⟩ | ⟨h9, rfl, hw⟩)
                  · have h9' := Lib.hid h9
                    clear h9
                    obtain rfl := hw.symm
                    clear hw
                    have d0 : wr.cell? ⟨q9, 0, none⟩ = some (.slice (some ⟨gr, 0, none⟩) vs.length cr) := (cell_of_row _ _ 0 _ _ _ (hrel.out.row9)).trans rfl
                    have d1 : wr.cell? ⟨q9, 1, none⟩ = some (.int .i64 (cur : Nat)) := (cell_of_row _ _ 1 _ _ _ (hrel.out.row9)).trans rfl
                    go_wp2_with fail
                    refine (rredo_any (some ⟨gr, 0, none⟩) vs.length cr cur wr hlt hle).mono ?_
                    rintro e w2 ⟨⟨h99, rfl⟩ | ⟨h99, rfl⟩, hb2'⟩
                    all_goals have HB2 := Lib.hid hb2'; clear hb2'
                    · clear h99
                      have HN := Lib.hid (hrel.out.next' rfl (ButAt.refl _ _) hrel.out.hist (.inl rfl) HB2.out (own_but hrel.out.own9 (ButAt.of (bs := []) HB2.out) (by simp)) (.inl rfl))
                      have HQ2 : Hid (w2.heap[q11]? = some (.cells #[.int .u8 xk, .int .u16 xt, .int .i64 xv] 62 (0, 0))) := by
                        have e1 := (ButAt.refl [g, gi] wr).block q11 (row_lt hrow.out) (by have := hap.out; simp; exact ⟨this.1, this.2.1⟩)
                        exact (((HB2.out).block q11 (row_lt (e1.trans hrow.out))).trans e1).trans hrow.out
                      clear d0 d1 HB2
                      go_wp2_with (refine wpList_store_row rfl 66 (.tmp 9) (.tmp 99) rfl q9 #[.slice (some ⟨gr, 0, none⟩) vs.length cr, .int .i64 (cur : Nat)] rfl rfl 66 #[.slice (some ⟨gr, 0, none⟩) vs.length cr, .int .i64 (cur : Nat)] HN.out.1 sizeHist rfl (one_hist _ _ _ _) ?_)
                      generalize hw3 : World.setRow w2 _ _ = w3
                      obtain ⟨gin, cn, vsn, cu, grn, crn, HR3⟩ : ∃ gin cn vsn cu grn crn, Hid (HR w.heap.size w q9 w3 g gin cn vsn cu grn crn) := by subst hw3; exact ⟨_, _, _, _, _, _, HN.out.2⟩
                      have HQ3 : Hid (w3.heap[q11]? = some (.cells #[.int .u8 xk, .int .u16 xt, .int .i64 xv] 62 (0, 0))) := by subst hw3; exact (setRow_other _ _ _ _ hap.out.2.2.1).trans HQ2.out
                      clear hw3 HN HQ2
                      clear hrel hrow hlt hle k0 k2 hmi
                      obtain ⟨x, hx⟩ : ∃ x, vsn[cu]? = some x := ⟨_, List.getElem?_eq_getElem HR3.out.hist.lt⟩
                      refine (current_any w.heap.size g gin cn vsn cu x w3 HR3.out.hist hx).mono ?_
                      rintro e w4 ⟨rfl, q, rfl⟩
                      have HR4 := Lib.hid (HR3.out.same (below_drewN (Below.refl _ _) q))
                      have HQ4 : Hid ((w3.drewN q).heap[q11]? = some (.cells #[.int .u8 xk, .int .u16 xt, .int .i64 xv] 62 (0, 0))) := HQ3
                      generalize w3.drewN q = w4 at HR4 HQ4 ⊢
                      have t0 : w4.cell? ⟨q9, 0, none⟩ = some (.slice (some ⟨grn, 0, none⟩) vsn.length crn) := (cell_of_row _ _ 0 _ _ _ HR4.out.row9).trans rfl
                      have t1 : w4.cell? ⟨q9, 1, none⟩ = some (.int .i64 (cu : Nat)) := (cell_of_row _ _ 1 _ _ _ HR4.out.row9).trans rfl
                      have t2 : w4.cell? ⟨grn, cu, none⟩ = some (.int .i64 x) := (HR4.out.own9.cellAt cu (by have := HR4.out.hist.lt; omega)).trans (by rw [List.getElem?_map, hx]; rfl)
                      have t3 := HR4.out.hist.lt
                      have t4 := HR4.out.hist.le
                      obtain ⟨nn, hnn⟩ : ∃ nn, nn = vsn.length := ⟨_, rfl⟩
                      rw [← hnn] at t0 t3 t4
                      clear hnn hx
                      go_wp2
                      go_light
                      exact ⟨⟨l + 1, g, gin, cn, cu, grn, crn, vsn, by omega, by go_num, rfl, HR4.out, HQ4.out⟩, by simp [intOf]; omega⟩
                    · exact absurd h99 (by have := h9'.out; omega)
                  · have h9' := Lib.hid h9
                    clear h9
                    have hB1 : Hid (ButAt [g, gi] wr w1) := by show ButAt _ _ _; rw [hw]; exact ButAt.setCell (by simp) _
                    have hH1 : Hid (Hist w.heap.size w1 g gi c vs (cur + 1)) := by show Hist _ _ _ _ _ _ _; rw [hw]; exact hrel.out.hist.to (by have := h9'.out; omega)
                    clear hw
                    have HM := Lib.hid (hrel.out.mid hB1.out)
                    have d0 : w1.cell? ⟨q9, 0, none⟩ = some (.slice (some ⟨gr, 0, none⟩) vs.length cr) := (cell_of_row _ _ 0 _ _ _ (HM.out.1)).trans rfl
                    have d1 : w1.cell? ⟨q9, 1, none⟩ = some (.int .i64 (cur : Nat)) := (cell_of_row _ _ 1 _ _ _ (HM.out.1)).trans rfl
                    go_wp2_with fail
                    refine (rredo_any (some ⟨gr, 0, none⟩) vs.length cr cur w1 hlt hle).mono ?_
                    rintro e w2 ⟨⟨h99, rfl⟩ | ⟨h99, rfl⟩, hb2'⟩
                    all_goals have HB2 := Lib.hid hb2'; clear hb2'
                    · exact absurd h99 (by have := h9'.out; omega)
                    · clear h99
                      have HN := Lib.hid (hrel.out.next' rfl hB1.out hH1.out (.inl rfl) HB2.out (own_but HM.out.2 (ButAt.of (bs := []) HB2.out) (by simp)) (.inl rfl))
                      have HQ2 : Hid (w2.heap[q11]? = some (.cells #[.int .u8 xk, .int .u16 xt, .int .i64 xv] 62 (0, 0))) := by
                        have e1 := (hB1.out).block q11 (row_lt hrow.out) (by have := hap.out; simp; exact ⟨this.1, this.2.1⟩)
                        exact (((HB2.out).block q11 (row_lt (e1.trans hrow.out))).trans e1).trans hrow.out
                      clear d0 d1 HB2 HM hH1 hB1
                      go_wp2_with (refine wpList_store_row rfl 66 (.tmp 9) (.tmp 99) rfl q9 #[.slice (some ⟨gr, 0, none⟩) vs.length cr, .int .i64 ((cur + 1 : Nat) : Int)] rfl rfl 66 #[.slice (some ⟨gr, 0, none⟩) vs.length cr, .int .i64 (cur : Nat)] HN.out.1 sizeHist rfl (one_hist _ _ _ _) ?_)
                      generalize hw3 : World.setRow w2 _ _ = w3
                      obtain ⟨gin, cn, vsn, cu, grn, crn, HR3⟩ : ∃ gin cn vsn cu grn crn, Hid (HR w.heap.size w q9 w3 g gin cn vsn cu grn crn) := by subst hw3; exact ⟨_, _, _, _, _, _, HN.out.2⟩
                      have HQ3 : Hid (w3.heap[q11]? = some (.cells #[.int .u8 xk, .int .u16 xt, .int .i64 xv] 62 (0, 0))) := by subst hw3; exact (setRow_other _ _ _ _ hap.out.2.2.1).trans HQ2.out
                      clear hw3 HN HQ2
                      clear hrel hrow hlt hle k0 k2 hmi
                      obtain ⟨x, hx⟩ : ∃ x, vsn[cu]? = some x := ⟨_, List.getElem?_eq_getElem HR3.out.hist.lt⟩
                      refine (current_any w.heap.size g gin cn vsn cu x w3 HR3.out.hist hx).mono ?_
                      rintro e w4 ⟨rfl, q, rfl⟩
                      have HR4 := Lib.hid (HR3.out.same (below_drewN (Below.refl _ _) q))
                      have HQ4 : Hid ((w3.drewN q).heap[q11]? = some (.cells #[.int .u8 xk, .int .u16 xt, .int .i64 xv] 62 (0, 0))) := HQ3
                      generalize w3.drewN q = w4 at HR4 HQ4 ⊢
                      have t0 : w4.cell? ⟨q9, 0, none⟩ = some (.slice (some ⟨grn, 0, none⟩) vsn.length crn) := (cell_of_row _ _ 0 _ _ _ HR4.out.row9).trans rfl
                      have t1 : w4.cell? ⟨q9, 1, none⟩ = some (.int .i64 (cu : Nat)) := (cell_of_row _ _ 1 _ _ _ HR4.out.row9).trans rfl
                      have t2 : w4.cell? ⟨grn, cu, none⟩ = some (.int .i64 x) := (HR4.out.own9.cellAt cu (by have := HR4.out.hist.lt; omega)).trans (by rw [List.getElem?_map, hx]; rfl)
                      have t3 := HR4.out.hist.lt
                      have t4 := HR4.out.hist.le
                      obtain ⟨nn, hnn⟩ : ∃ nn, nn = vsn.length := ⟨_, rfl⟩
                      rw [← hnn] at t0 t3 t4
                      clear hnn hx
                      go_wp2
                      go_light
                      exact ⟨⟨l + 1, g, gin, cn, cu, grn, crn, vsn, by omega, by go_num, rfl, HR4.out, HQ4.out⟩, by simp [intOf]; omega⟩
                · obtain ⟨y, hy⟩ : ∃ y, IntKind.i64.wrap (xv + 1) = y := ⟨_, rfl⟩
                  go_wp2_with fail
                  refine (forkH_any w.heap.size g gi c vs cur wr hrel.out.hist).mono ?_
                  rintro e w1 ⟨g1, gi1, c1, rfl, hH1, hb1'⟩
                  have hb1 := Lib.hid hb1'
                  clear hb1'
                  have k2' : w1.cell? ⟨q11, 2, none⟩ = some (Value.int .i64 xv) := (cell_of_row _ _ 2 _ _ _ ((hb1.out.block q11 (row_lt hrow.out)).trans hrow.out)).trans rfl
                  have HC : Hid (Calls Try.prog 29 #[.pointer (some ⟨g, 0, none⟩), .int .i64 y] w1 fun e w' => (∃ z, e = .returned (.int .i64 z)) ∧ Hid (ButAt [g, gi] w1 w')) := by
                    refine (commitH_any w.heap.size g gi c vs cur y w1 (hrel.out.hist.below hb1.out)).mono ?_
                    rintro e w' (⟨_, rfl, rfl⟩ | ⟨_, rfl, _, _, _, hB, _⟩)
                    · exact ⟨⟨_, rfl⟩, ButAt.refl _ _⟩
                    · exact ⟨⟨_, rfl⟩, hB⟩
                  go_wp2_with fail
                  refine (HC.out).mono ?_
                  rintro e w5 ⟨⟨zz, rfl⟩, hB5⟩
                  have hB1 : Hid (ButAt [g, gi] wr w5) := (ButAt.of hb1.out).trans hB5.out
                  have hn1 : Hid ((vs.take (cur + 1)).length = cur + 1) := by show _ = _; rw [List.length_take]; omega
                  have hG1 := Lib.hid hH1.out.gilt.1
                  have hH5 : Hid (Hist w.heap.size w5 g1 gi1 c1 (vs.take (cur + 1)) cur) := by
                    have e1 := hrel.out.hist.glt
                    have e2 := hrel.out.hist.gilt.2
                    have e3 := hH1.out.bg
                    have e4 := hH1.out.gilt.1
                    exact (hH1.out.mono hrel.out.bas).kept hB5.out (by simp; omega) (by simp; omega)
                  have HM := Lib.hid (hrel.out.mid hB1.out)
                  clear k2'
                  have d0 : w5.cell? ⟨q9, 0, none⟩ = some (.slice (some ⟨gr, 0, none⟩) vs.length cr) := (cell_of_row _ _ 0 _ _ _ (HM.out.1)).trans rfl
                  have d1 : w5.cell? ⟨q9, 1, none⟩ = some (.int .i64 (cur : Nat)) := (cell_of_row _ _ 1 _ _ _ (HM.out.1)).trans rfl
                  go_wp2_with fail
                  refine (rfork_any gr vs.length cr cur w.heap.size vs w5 rfl hlt hle HM.out.2).mono ?_
                  rintro e w2 ⟨⟨gr2, cr2, rfl, ho2⟩, HB2⟩
                  have HN := Lib.hid (hrel.out.next' hn1.out hB1.out hH5.out (.inr hG1.out) HB2.out (own_mono ho2.out (by have := hrel.out.bas; have := hB1.out.size; omega)) (.inr (own_row ho2.out).2.1))
                  have HQ2 : Hid (w2.heap[q11]? = some (.cells #[.int .u8 xk, .int .u16 xt, .int .i64 xv] 62 (0, 0))) := by
                    have e1 := (hB1.out).block q11 (row_lt hrow.out) (by have := hap.out; simp; exact ⟨this.1, this.2.1⟩)
                    exact (((HB2.out).block q11 (row_lt (e1.trans hrow.out))).trans e1).trans hrow.out
                  clear d0 d1 HB2 HM hH1 hH5 hB1 hG1 hn1 HC hy
                  go_wp2_with (refine wpList_store_row rfl 66 (.tmp 9) (.tmp 112) rfl q9 #[.slice (some ⟨gr2, 0, none⟩) (cur + 1) cr2, .int .i64 (cur : Nat)] rfl rfl 66 #[.slice (some ⟨gr, 0, none⟩) vs.length cr, .int .i64 (cur : Nat)] HN.out.1 sizeHist rfl (one_hist _ _ _ _) ?_)
                  generalize hw3 : World.setRow w2 _ _ = w3
                  obtain ⟨gin, cn, vsn, cu, grn, crn, HR3⟩ : ∃ gin cn vsn cu grn crn, Hid (HR w.heap.size w q9 w3 g1 gin cn vsn cu grn crn) := by subst hw3; exact ⟨_, _, _, _, _, _, HN.out.2⟩
                  have HQ3 : Hid (w3.heap[q11]? = some (.cells #[.int .u8 xk, .int .u16 xt, .int .i64 xv] 62 (0, 0))) := by subst hw3; exact (setRow_other _ _ _ _ hap.out.2.2.1).trans HQ2.out
                  clear hw3 HN HQ2
                  clear hrel hrow hlt hle k0 k2 hmi
                  obtain ⟨x, hx⟩ : ∃ x, vsn[cu]? = some x := ⟨_, List.getElem?_eq_getElem HR3.out.hist.lt⟩
                  refine (current_any w.heap.size g1 gin cn vsn cu x w3 HR3.out.hist hx).mono ?_
                  rintro e w4 ⟨rfl, q, rfl⟩
                  have HR4 := Lib.hid (HR3.out.same (below_drewN (Below.refl _ _) q))
                  have HQ4 : Hid ((w3.drewN q).heap[q11]? = some (.cells #[.int .u8 xk, .int .u16 xt, .int .i64 xv] 62 (0, 0))) := HQ3
                  generalize w3.drewN q = w4 at HR4 HQ4 ⊢
                  have t0 : w4.cell? ⟨q9, 0, none⟩ = some (.slice (some ⟨grn, 0, none⟩) vsn.length crn) := (cell_of_row _ _ 0 _ _ _ HR4.out.row9).trans rfl
                  have t1 : w4.cell? ⟨q9, 1, none⟩ = some (.int .i64 (cu : Nat)) := (cell_of_row _ _ 1 _ _ _ HR4.out.row9).trans rfl
                  have t2 : w4.cell? ⟨grn, cu, none⟩ = some (.int .i64 x) := (HR4.out.own9.cellAt cu (by have := HR4.out.hist.lt; omega)).trans (by rw [List.getElem?_map, hx]; rfl)
                  have t3 := HR4.out.hist.lt
                  have t4 := HR4.out.hist.le
                  obtain ⟨nn, hnn⟩ : ∃ nn, nn = vsn.length := ⟨_, rfl⟩
                  rw [← hnn] at t0 t3 t4
                  clear hnn hx
                  go_wp2
                  go_light
                  exact ⟨⟨l + 1, g1, gin, cn, cu, grn, crn, vsn, by omega, by go_num, rfl, HR4.out, HQ4.out⟩, by simp [intOf]; omega⟩
                · obtain ⟨y, hy⟩ : ∃ y, IntKind.i64.wrap (xv + 1) = y := ⟨_, rfl⟩
                  have HF : Hid (Calls Try.prog 35 #[.pointer (some ⟨g, 0, none⟩)] wr.drew fun e w' => ∃ g1 gi1 c1, e = .returned (.pointer (some ⟨g1, 0, none⟩)) ∧ Hid (Hist wr.heap.size w' g1 gi1 c1 (vs.take (cur + 1)) cur) ∧ Hid (Below wr.heap.size wr w') ∧ w'.cell? ⟨q11, 2, none⟩ = some (.int .i64 xv)) := by
                    have hdr : Below wr.heap.size wr wr.drew := (Below.refl _ _).drew
                    refine (forkH_any w.heap.size g gi c vs cur wr.drew (hrel.out.hist.below hdr)).mono ?_
                    rintro e w' ⟨g1, gi1, c1, rfl, h1, h2⟩
                    exact ⟨g1, gi1, c1, rfl, h1, hdr.trans h2, (cell_of_row _ _ 2 _ _ _ ((h2.block q11 (row_lt hrow.out)).trans hrow.out)).trans rfl⟩
                  have HC : Hid (∀ w1 g1 gi1 c1, Hid (Hist wr.heap.size w1 g1 gi1 c1 (vs.take (cur + 1)) cur) → Hid (Below wr.heap.size wr w1) → Calls Try.prog 29 #[.pointer (some ⟨g1, 0, none⟩), .int .i64 y] w1 fun e w' => (∃ z, e = .returned (.int .i64 z)) ∧ Hid (Below wr.heap.size wr w')) := fun w1 g1 gi1 c1 h1 h2 => by
                    refine (commitH_any wr.heap.size g1 gi1 c1 _ cur y w1 h1.out).mono ?_
                    rintro e w' (⟨_, rfl, rfl⟩ | ⟨_, rfl, _, _, _, hB, _⟩)
                    · exact ⟨⟨_, rfl⟩, h2⟩
                    · exact ⟨⟨_, rfl⟩, h2.out.trans (hB.out.below h2.out.size (by have e3 := h1.out.bg; have e4 := h1.out.gilt.1; simp; exact ⟨e3, e4⟩))⟩
                  go_wp2_with fail
                  go_region_with (first
                    | (go_at_call 35; (with_reducible refine (HF.out).mono ?_); rintro e w1 ⟨g1, gi1, c1, rfl, hH1, hb1, k2'⟩)
                    | (go_at_call 29; (with_reducible refine (HC.out _ _ _ _ hH1 hb1).mono ?_); rintro e w3 ⟨⟨zz, rfl⟩, hb3⟩))
                  all_goals
                    obtain ⟨gin, cn, vsn, cu, grn, crn, HR3⟩ : ∃ gin cn vsn cu grn crn, Hid (HR w.heap.size w q9 w3 g gin cn vsn cu grn crn) := ⟨_, _, _, _, _, _, hrel.out.same hb3.out⟩
                    have HQ3 : Hid (w3.heap[q11]? = some (.cells #[.int .u8 xk, .int .u16 xt, .int .i64 xv] 62 (0, 0))) := (hb3.out.block q11 (row_lt hrow.out)).trans hrow.out
                    clear hH1 hb1 k2' HF HC hb3 hy
                    go_wp2_with fail
                    clear hrel hrow hlt hle k0 k2 hmi
                    obtain ⟨x, hx⟩ : ∃ x, vsn[cu]? = some x := ⟨_, List.getElem?_eq_getElem HR3.out.hist.lt⟩
                    refine (current_any w.heap.size g gin cn vsn cu x w3 HR3.out.hist hx).mono ?_
                    rintro e w4 ⟨rfl, q, rfl⟩
                    have HR4 := Lib.hid (HR3.out.same (below_drewN (Below.refl _ _) q))
                    have HQ4 : Hid ((w3.drewN q).heap[q11]? = some (.cells #[.int .u8 xk, .int .u16 xt, .int .i64 xv] 62 (0, 0))) := HQ3
                    generalize w3.drewN q = w4 at HR4 HQ4 ⊢
                    have t0 : w4.cell? ⟨q9, 0, none⟩ = some (.slice (some ⟨grn, 0, none⟩) vsn.length crn) := (cell_of_row _ _ 0 _ _ _ HR4.out.row9).trans rfl
                    have t1 : w4.cell? ⟨q9, 1, none⟩ = some (.int .i64 (cu : Nat)) := (cell_of_row _ _ 1 _ _ _ HR4.out.row9).trans rfl
                    have t2 : w4.cell? ⟨grn, cu, none⟩ = some (.int .i64 x) := (HR4.out.own9.cellAt cu (by have := HR4.out.hist.lt; omega)).trans (by rw [List.getElem?_map, hx]; rfl)
                    have t3 := HR4.out.hist.lt
                    have t4 := HR4.out.hist.le
                    obtain ⟨nn, hnn⟩ : ∃ nn, nn = vsn.length := ⟨_, rfl⟩
                    rw [← hnn] at t0 t3 t4
                    clear hnn hx
                    go_wp2
                    go_light
                    exact ⟨⟨l + 1, g, gin, cn, cu, grn, crn, vsn, by omega, by go_num, rfl, HR4.out, HQ4.out⟩, by simp [intOf]; omega⟩
              · obtain rfl : l = t + 1 := by omega
                go_wp2
                go_light
                exact ⟨⟨j + 1, _, _, _, _, _, _, _, by omega, by go_num, rfl, hrel.out⟩, by simp [intOf]; omega⟩
          · obtain rfl : j = k := by omega
            have Hbx := Lib.hid hR2.out.bel
            clear hR2
            go_wp2_with (first
              | (go_at_call 37; refine (current_none _).mono ?_; rintro e w' ⟨rfl, hw⟩; obtain rfl := hw.symm; clear hw)
              | (go_at_call 29; refine (commitH_none _ _).mono ?_; rintro e w' ⟨rfl, hw⟩; obtain rfl := hw.symm; clear hw)
              | (go_at_call 31; refine (undoH_none _).mono ?_; rintro e w' ⟨rfl, hw⟩; obtain rfl := hw.symm; clear hw)
              | (go_at_call 33; refine (redoH_none _).mono ?_; rintro e w' ⟨rfl, hw⟩; obtain rfl := hw.symm; clear hw)
              | (go_at_call 35; refine (forkH_none _).mono ?_; rintro e w' ⟨rfl, hw⟩; obtain rfl := hw.symm; clear hw)
              | (go_at_call 11; refine (awake12_any _).mono ?_; rintro e w' ⟨rfl, hbz⟩))
            go_ret
            exact ⟨rfl, Hbx.out.trans (hbz.mono Hbx.out.size)⟩
end Go.Proofs.Ytefhnacbgpbdhaa.Tok
