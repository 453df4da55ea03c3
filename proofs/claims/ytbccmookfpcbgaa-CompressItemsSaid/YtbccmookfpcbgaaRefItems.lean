/- Contract of the reference's Items. -/
import Derived.Test.YtbccmookfpcbgaaItems
import Derived.Test.YtbccmookfpcbgaaRefLabels
namespace Go.Proofs.Ytbccmookfpcbgaa.Tok
open Go.RowKit Go.Proofs.Ytbccmookfpcbgaa

theorem infoRItem : (Try.prog.info? 55).map (fun i => (i.zero, i.size, i.bytes)) = some (some (.agg #[.string ⟨#[]⟩, .int .i64 0, .bool false, .bool false]), 4, 32) := by kernel_rfl
theorem ItRel.lit {hs : List HypT} {lb : List ByteArray} {l : List Int} (T I : TypeId) (w : World) :
    ItRel hs lb l T I w.heap.size w (.slice (some ⟨w.heap.size, 0, none⟩) 0 0) (.slice (some ⟨w.heap.size + 1, 0, none⟩) 0 0) 0 [] [] ((w.alloc (.cells #[] T)).alloc (.cells #[] I)) := by
  have h1 := World.ownsRow_lit (base := w.heap.size) (e := T) (size := 4) w #[] 0 (Nat.le_refl _) (Nat.zero_le _) rfl
  have h2 := World.ownsRow_lit (base := w.heap.size) (e := I) (size := 1) (w.alloc (.cells #[] T)) #[] 0 (by simp) (Nat.zero_le _) rfl
  rw [show (w.alloc (.cells #[] T)).heap.size = w.heap.size + 1 by simp] at h2
  exact ⟨by rw [List.drop_zero], Nat.le_refl _, Nat.le_refl _, fun h => by rw [List.take_zero, lastOf_nil] at h; omega, h1.alloc _, h2, ((Below.refl _ _).alloc (Nat.le_refl _) _).alloc (by simp) _, by simp; omega⟩

open Classical in
set_option maxHeartbeats 3200000 in
set_option maxRecDepth 8000 in
theorem ritems_any (x0 : ByteArray) (x1 : Bool) (H A3 A4 A5 A6 A7 : Option Addr) (m hc n3 c3 n4 c4 n5 c5 n6 c6 n7 c7 : Nat) (Lb L : Option Addr) (nl cl n c : Nat) (hs : List HypT) (lb : List ByteArray) (l : List Int) (w : World)
    (hm : m ≤ 60) (hnl : nl ≤ 100) (hlc : nl ≤ cl) (hn : n ≤ 5000) (hsz : ∀ s ∈ lb, s.size ≤ 9223372036854775807)
    (hh : Rd w w.heap.size 3 H m (hs.flatMap hypV)) (hlb : Rd w w.heap.size 1 Lb nl (lb.map Value.string)) (hl : Rd w w.heap.size 1 L n (l.map (Value.int .i64))) :
    Calls Try.prog 18 #[.agg #[.string x0, .bool x1, .slice H m hc, .slice A3 n3 c3, .slice A4 n4 c4, .slice A5 n5 c5, .slice A6 n6 c6, .slice A7 n7 c7], .agg #[.slice Lb nl cl, .slice L n c]] w (ItemsGood hs lb l 55 w) := by
  obtain ⟨i0, hi0, iz0, iz1, iz2⟩ := info_parts infoRItem
  obtain ⟨j0, hj0, jz0, jz1, jz2⟩ := info_parts infoInt'
  have Hh := Lib.hid hh
  have Hlb := Lib.hid hlb
  have Hl := Lib.hid hl
  have Hsz := Lib.hid hsz
  clear hh hlb hl hsz
  go_enter Try.func18, Try.ntmps18
  go_wp2_with fail
  generalize hwq : World.alloc (World.alloc _ _) _ = wq
  have hbq : Below w.heap.size w wq := by subst hwq; exact ((Below.refl _ _).alloc (Nat.le_refl _) _).alloc (by simp) _
  have hsq : wq.heap.size = w.heap.size + 2 := by subst hwq; simp
  have Hr0 := Lib.hid (show wq.heap[w.heap.size]? = some (.cells #[.string x0, .bool x1, .slice H m hc, .slice A3 n3 c3, .slice A4 n4 c4, .slice A5 n5 c5, .slice A6 n6 c6, .slice A7 n7 c7] 45 (0, 0)) by
    subst hwq; rw [heap_alloc_old _ _ (by simp)]; exact heap_alloc_new _ _)
  have Hr1 := Lib.hid (show wq.heap[w.heap.size + 1]? = some (.cells #[.slice Lb nl cl, .slice L n c] 32 (0, 0)) by
    subst hwq; have := heap_alloc_new (w.alloc (.cells #[.string x0, .bool x1, .slice H m hc, .slice A3 n3 c3, .slice A4 n4 c4, .slice A5 n5 c5, .slice A6 n6 c6, .slice A7 n7 c7] 45)) (.cells #[.slice Lb nl cl, .slice L n c] 32); rwa [show (w.alloc (.cells #[.string x0, .bool x1, .slice H m hc, .slice A3 n3 c3, .slice A4 n4 c4, .slice A5 n5 c5, .slice A6 n6 c6, .slice A7 n7 c7] 45)).heap.size = w.heap.size + 1 by simp] at this)
  clear hwq
  have Hsq := Lib.hid hsq
  clear hsq
  have Hall : Hid (∀ w1, Below (w.heap.size + 2) wq w1 → Below w.heap.size w w1 ∧ w.heap.size + 2 ≤ w1.heap.size ∧
      w1.heap[w.heap.size]? = some (.cells #[.string x0, .bool x1, .slice H m hc, .slice A3 n3 c3, .slice A4 n4 c4, .slice A5 n5 c5, .slice A6 n6 c6, .slice A7 n7 c7] 45 (0, 0)) ∧
      w1.heap[w.heap.size + 1]? = some (.cells #[.slice Lb nl cl, .slice L n c] 32 (0, 0)) ∧
      w1.cell? ⟨w.heap.size, 2, none⟩ = some (.slice H m hc) ∧ w1.cell? ⟨w.heap.size + 1, 0, none⟩ = some (.slice Lb nl cl) ∧ w1.cell? ⟨w.heap.size + 1, 1, none⟩ = some (.slice L n c)) := fun w1 h => by
    have r0 := (h.block w.heap.size (by omega)).trans Hr0.out
    have r1 := (h.block (w.heap.size + 1) (by omega)).trans Hr1.out
    refine ⟨hbq.trans (h.mono (by omega)), ?_, r0, r1, ?_, ?_, ?_⟩
    · have := h.size; have := Hsq.out; omega
    · rw [cell_of_row _ _ _ _ _ _ r0]; rfl
    · rw [cell_of_row _ _ _ _ _ _ r1]; rfl
    · rw [cell_of_row _ _ _ _ _ _ r1]; rfl
  have HR : Hid (∀ w1, Below (w.heap.size + 2) wq w1 → Rd w1 w1.heap.size 3 H m (hs.flatMap hypV) ∧ Rd w1 w1.heap.size 1 Lb nl (lb.map Value.string) ∧ Rd w1 w1.heap.size 1 L n (l.map (Value.int .i64))) := fun w1 h => by
    have hb := (Hall.out w1 h).1
    exact ⟨(Hh.out.below hb).more hb.size, (Hlb.out.below hb).more hb.size, (Hl.out.below hb).more hb.size⟩
  clear Hh Hlb Hl
  have HB0 := Lib.hid (Below.refl (w.heap.size + 2) wq)
  obtain ⟨-, hz, -, -, c2, c0, c1⟩ := Hall.out wq HB0.out
  go_wp2_with fail
  refine (rlabels_any Lb nl cl lb wq (by omega) hlc Hsz.out (HR.out wq HB0.out).2.1).mono ?_
  rintro e w1 ⟨hbi, q1, rfl⟩
  have Hbi := Lib.hid hbi
  clear hbi
  have Hbd : Hid (∀ q, Below (w.heap.size + 2) wq (wq.drewN q)) := fun q => below_drewN HB0.out q
  have Hlen := Lib.hid (show l.length = n by have := (HR.out wq HB0.out).2.2.len; simp at this; omega)
  have Hlen2 := Lib.hid (show lb.length = nl by have := (HR.out wq HB0.out).2.1.len; simp at this; omega)
  have Hlen3 := Lib.hid (show hs.length = m by have := (HR.out wq HB0.out).1.len; rw [flat3_len' hypV (fun _ => rfl)] at this; omega)
  by_cases hlok : LabsOk lb
  · obtain rfl := (Hbi.out).of hlok
    have Hlok := Lib.hid hlok
    clear hlok
    go_wp2
    go_quiet (fail)
    go_wp2
    go_loopw [8] (fun i wr => ∃ j q : Nat, j ≤ m ∧ i = .int .i64 j ∧ Hid (∀ h ∈ hs.take j, h.1 ∉ lb) ∧ wr = wq.drewN q) (fun i _ => m - (intOf i).toNat)
    case atStart => exact ⟨0, _, Nat.zero_le _, rfl, by show ∀ h ∈ _, _; simp, by first | rfl | exact World.drewN_drewN _ _ _⟩
    case round =>
      obtain ⟨j, q, hj, rfl, hno, rfl⟩ := hrel
      by_cases hlt : j < m
      · obtain ⟨b, off, rfl, hbb, hcc⟩ := (HR.out wq HB0.out).1.pos (by omega)
        have hj1 : j < hs.length := by have := Hlen3.out; omega
        have hcell0 : wq.cell? ⟨b, off + j * 3, none⟩ = _ := hcc (j * 3) _ ((flat3' hypV (fun _ => rfl) hs j 0 hj1 (by omega)).trans rfl)
        have Hin := Lib.hid (List.getElem_mem hj1)
        have Hnx := Lib.hid (show hs.take (j + 1) = hs.take j ++ [hs[j]] from List.take_succ_eq_append_getElem hj1)
        obtain ⟨x, hx⟩ : ∃ x, x = hs[j] := ⟨_, rfl⟩
        rw [← hx] at hcell0 Hin Hnx
        clear hx hcc
        obtain ⟨lab, fl, T, tn, tc⟩ := x
        simp only at hcell0
        by_cases hin : lab ∈ lb
        · have Hc2 : Hid (∀ m, Calls Try.prog 37 #[.slice Lb nl cl, .string lab] (wq.drewN m) fun e w' => e = .returned (.bool true) ∧ w' = wq.drewN m) := fun m =>
            (rhas5_any Lb nl cl lb lab (wq.drewN m) (by omega) (HR.out wq HB0.out).2.1).mono fun e w' ⟨he, hw⟩ => ⟨by rw [he, decide_eq_true hin], hw.symm⟩
          have HF := Lib.hid (itemsF_list (hs := hs) (lb := lb) (l := l) (fun h => h.2 ⟨_, Hin.out, hin⟩))
          clear hin
          go_wp2
          go_quiet ((go_at_call 37; first | exact same_later Hc2.out _ _ | exact Calls.quiet_of_same (Hc2.out _)))
          go_wp2
          go_ret2
          exact .err HF.out (hbq.trans ((below_drewN (Hbd.out _) _).mono (by omega)))
        · have Hc2 : Hid (∀ m, Calls Try.prog 37 #[.slice Lb nl cl, .string lab] (wq.drewN m) fun e w' => e = .returned (.bool false) ∧ w' = wq.drewN m) := fun m =>
            (rhas5_any Lb nl cl lb lab (wq.drewN m) (by omega) (HR.out wq HB0.out).2.1).mono fun e w' ⟨he, hw⟩ => ⟨by rw [he, decide_eq_false hin], hw.symm⟩
          have Hn2 := Lib.hid (show ∀ h ∈ hs.take (j + 1), h.1 ∉ lb by rw [Hnx.out]; intro h h1; rcases List.mem_append.1 h1 with h1 | h1; exact hno.out h h1; simp at h1; subst h1; exact hin)
          clear hin
          go_wp2
          go_quiet ((go_at_call 37; first | exact same_later Hc2.out _ _ | exact Calls.quiet_of_same (Hc2.out _)))
          go_wp2
          go_light
          exact ⟨⟨j + 1, _, by omega, by go_num, Hn2.out, by first | rfl | exact World.drewN_drewN _ _ _⟩, by simp [intOf]; omega⟩
      · obtain rfl : m = j := by omega
        have Hok := Lib.hid (And.intro Hlok.out (show ¬ Mand hs lb from fun ⟨h, h1, h2⟩ => by have := hno.out h; rw [List.take_of_length_le (by have := Hlen3.out; omega)] at this; exact this h1 h2))
        have Hb3 := Lib.hid (Hbd.out q)
        generalize hw3 : wq.drewN q = w3
        rw [hw3] at Hb3
        clear hw3 hno c2 c0 c1
        obtain ⟨hbw3, hz3, -, -, c2, c0, c1⟩ := Hall.out w3 Hb3.out
        have Hbw3 := Lib.hid hbw3
        clear hbw3
        go_wp2_with fail
        refine (rnumsOk_any L n c l w3 (by omega) (HR.out w3 Hb3.out).2.2).mono ?_
        rintro e w' ⟨hbi3, rfl⟩
        by_cases hnu : NumOk l
        · obtain rfl := hbi3.of hnu
          have Hnu := Lib.hid hnu
          have hlt0 : w.heap.size < w3.heap.size := by omega
          have hlt1 : w.heap.size + 1 < w3.heap.size := by omega
          clear hnu
          go_wp2
          go_loopw [9, 10, 11] (fun v u i wr => ∃ (k : Nat) (its : List Itm) (sv : List Nat), k ≤ n ∧ i = .int .i64 k ∧ ItRel hs lb l 55 3 w3.heap.size w3 v u k its sv wr) (fun _ _ i _ => n - (intOf i).toNat)
          case atStart => exact ⟨0, [], [], Nat.zero_le _, rfl, ItRel.lit _ _ _⟩
          case round =>
            obtain ⟨k, its, sv, hk, rfl, hrel⟩ := hrel
            have Rel := Lib.hid hrel
            clear hrel c2 c0 c1
            obtain ⟨-, -, -, -, c2, c0, c1⟩ := Hall.out wr (Hb3.out.trans (Rel.out.bel.mono hz3))
            obtain ⟨A1, e1, rfl⟩ := own_slice Rel.out.own
            obtain ⟨A2, e2, rfl⟩ := own_slice Rel.out.sav
            have hni := Rel.out.ni
            have hns := Rel.out.ns
            clear hlt0 hlt1
            have hlt0 : w.heap.size < wr.heap.size := by have := Rel.out.siz; omega
            have hlt1 : w.heap.size + 1 < wr.heap.size := by have := Rel.out.siz; omega
            by_cases hlt : k < n
            · have hk1 : k < l.length := by have := Hlen.out; omega
              obtain ⟨bL, oL, rfl, hbL, hcL⟩ := (HR.out w3 Hb3.out).2.2.pos (by omega)
              have hcell := (Rel.out.bel.cell (p := ⟨bL, oL + k, none⟩) hbL).trans (hcL k (.int .i64 l[k]) (by simp [hk1]))
              obtain ⟨hx1, hx2, hx3⟩ := Hnu.out.at hk1
              have Hx3 := Lib.hid (fun h => Rel.out.pos (hx3 h))
              have Hdr := Lib.hid (List.drop_eq_getElem_cons hk1)
              obtain ⟨x, hx⟩ : ∃ x, x = l[k] := ⟨_, rfl⟩
              rw [← hx] at hcell hx1 hx2 Hx3 Hdr
              clear hcL hx hx3
              have g63 : its.length + 1 ≤ maxLen := by simp only [maxLen]; omega
              have gby : (its.length + 1) * 32 ≤ 140737488355328 := by omega
              have hbs : Hid (∀ o, w3.heap.size ≤ (wr.alloc o).heap.size) := fun o => by have := Rel.out.siz; simp; omega
              by_cases h0 : x = 0
              · subst h0
                have hpos := Hx3.out rfl
                obtain ⟨p, hp⟩ : ∃ p, its.length = p + 1 := ⟨its.length - 1, by omega⟩
                obtain ⟨g, rfl, hg1, hg2⟩ := own_at Rel.out.own hpos
                have hp1 : (its.length : Int) - 1 = (p : Nat) := by omega
                have hpl : p < its.length := by omega
                obtain ⟨bv, hbv⟩ : ∃ bv, wr.cell? ⟨g, p * 4 + 3, none⟩ = some bv := ⟨_, (Rel.out.own.cellAt (p * 4 + 3) (by omega)).trans (List.getElem?_eq_getElem (by rw [itmC_len]; omega))⟩
                have hfz := Rel.out.own.frozenAt (p * 4 + 3)
                have Hsv := Lib.hid (Rel.out.sav.kept (Rel.out.own.stored (p * 4 + 3) (.bool true)).2 (own_apart' Rel.out.sav Rel.out.own (by decide)))
                have hnew : Hid (∀ j u, [Value.int .i64 (p : Nat)][j]? = some u → ((wr.setCell ⟨g, p * 4 + 3, none⟩ (.bool true)).alloc (.cells #[.int .i64 (p : Nat)] 3)).cell? ((⟨wr.heap.size, 0, none⟩ : Addr).add j) = some u) := fun j u hu => by
                  have h1 := int_new1 (wr.setCell ⟨g, p * 4 + 3, none⟩ (.bool true)) 3 _ hu
                  rwa [World.size_setCell] at h1
                have s63 : sv.length + 1 ≤ maxLen := by simp only [maxLen]; omega
                have sby : (sv.length + 1) * 8 ≤ 140737488355328 := by omega
                have hbs1 : Hid (∀ a b o, w3.heap.size ≤ ((wr.setCell a b).alloc o).heap.size) := fun a b o => by have := Rel.out.siz; simp; omega
                have Hp := Lib.hid hp
                clear hp hpos
                go_wp2_with (at_builtin; go_must (refine wpList_append_own _ rfl (.tmp 64) (.tmp 68) 23 rfl w3.heap.size 3 j0 (.int .i64 0) 1 8 Try.underlying23 hj0 jz0 jz1 jz2 rfl (by decide) _ _ _ rfl (Hsv.out.alloc _) ⟨wr.heap.size, 0, none⟩ 1 1 [.int .i64 (p : Nat)] rfl rfl (fun j u hu => hnew.out j u hu) (one_intc _) s63 sby (hbs1.out _ _ _) ?_); intro v2 w4 hown3 hgrow3 _)
                go_light
                exact ⟨⟨k + 1, _, _, by omega, by go_num, Rel.out.saved (by decide) Hdr.out Hp.out ((Below.refl _ _).alloc (by simp) _) hgrow3 hown3⟩, by simp [intOf]; omega⟩
              · by_cases h1 : x = -1
                · subst h1
                  have Hst := Lib.hid (stepI_unknown (hs := hs) (lb := lb) (its := its) (sv := sv) (n := -1) rfl)
                  go_wp2_with (at_builtin; go_must (refine wpList_append_own _ rfl (.tmp 73) (.tmp 75) 49 rfl w3.heap.size 55 i0 (.agg #[.string ⟨#[]⟩, .int .i64 0, .bool false, .bool false]) 4 32 Try.underlying49 hi0 iz0 iz1 iz2 rfl (by decide) _ _ _ rfl (Rel.out.own.alloc _) ⟨wr.heap.size, 0, none⟩ 1 1 [.string ⟨#[]⟩, .int .i64 (-1), .bool true, .bool false] rfl rfl (fun j u hu => item_new1 wr _ _ _ _ _ hu) (one_item _ _ _ _) g63 gby (hbs.out _) ?_); intro v2 w4 hown3 hgrow3 _)
                  go_light
                  exact ⟨⟨k + 1, _, sv, by omega, by go_num, Rel.out.pushed (by decide) Hdr.out Hst.out ((Below.refl _ _).alloc (Nat.le_refl _) _) hgrow3 hown3⟩, by simp [intOf]; omega⟩
                · have e0 : (x == 0) = false := by rw [beq_eq_false_iff_ne]; exact h0
                  have e1 : (x == -1) = false := by rw [beq_eq_false_iff_ne]; exact h1
                  have hx0 : 1 ≤ x := by omega
                  have H0 := Lib.hid h0
                  have H1 := Lib.hid h1
                  clear h0 h1
                  by_cases h2 : x ≤ m
                  · obtain ⟨j, hj⟩ : ∃ j : Nat, x - 1 = (j : Nat) := ⟨(x - 1).toNat, by omega⟩
                    have hjm : j < m := by omega
                    obtain ⟨bh, oh, rfl, hbh, hcH⟩ := (HR.out w3 Hb3.out).1.pos (by omega)
                    have hj1 : j < hs.length := by have := Hlen3.out; omega
                    have hcel2 := (Rel.out.bel.cell (p := ⟨bh, oh + j * 3, none⟩) hbh).trans (hcH (j * 3) _ ((flat3' hypV (fun _ => rfl) hs j 0 hj1 (by omega)).trans rfl))
                    have hbh2 : bh < wr.heap.size := by have := Rel.out.siz; omega
                    have Hst := Lib.hid (stepI_hyp (hs := hs) (lb := lb) (its := its) (sv := sv) (n := x) j hj1 (by omega))
                    obtain ⟨lab, hlab⟩ : ∃ lab, lab = hs[j].1 := ⟨_, rfl⟩
                    rw [← hlab] at Hst hcel2
                    clear hlab hcH
                    go_wp2_with (at_builtin; go_must (refine wpList_append_own _ rfl (.tmp 81) (.tmp 90) 49 rfl w3.heap.size 55 i0 (.agg #[.string ⟨#[]⟩, .int .i64 0, .bool false, .bool false]) 4 32 Try.underlying49 hi0 iz0 iz1 iz2 rfl (by decide) _ _ _ rfl (Rel.out.own.alloc _) ⟨wr.heap.size, 0, none⟩ 1 1 [.string lab, .int .i64 (-1), .bool false, .bool false] rfl rfl (fun j u hu => item_new1 wr _ _ _ _ _ hu) (one_item _ _ _ _) g63 gby (hbs.out _) ?_); intro v2 w4 hown3 hgrow3 _)
                    go_light
                    exact ⟨⟨k + 1, _, sv, by omega, by go_num, Rel.out.pushed (by decide) Hdr.out Hst.out ((Below.refl _ _).alloc (Nat.le_refl _) _) hgrow3 hown3⟩, by simp [intOf]; omega⟩
                  · have h2' : (m : Int) < x := by omega
                    clear h2
                    obtain ⟨y, hy⟩ : ∃ y : Int, x - (m : Nat) = y := ⟨_, rfl⟩
                    have hy0 : 1 ≤ y := by omega
                    have hym : y ≤ 1000000 := by omega
                    by_cases h3 : y ≤ nl
                    · have hxs : x ≤ (m : Int) + nl := by omega
                      obtain ⟨j, hj⟩ : ∃ j : Nat, y - 1 = (j : Nat) := ⟨(y - 1).toNat, by omega⟩
                      have hjm : j < nl := by omega
                      obtain ⟨bh, oh, rfl, hbh, hcH⟩ := (HR.out w3 Hb3.out).2.1.pos (by omega)
                      have hj1 : j < lb.length := by have := Hlen2.out; omega
                      have hcel2 := (Rel.out.bel.cell (p := ⟨bh, oh + j, none⟩) hbh).trans (hcH j (.string lb[j]) (by simp [hj1]))
                      have hbh2 : bh < wr.heap.size := by have := Rel.out.siz; omega
                      have Hst := Lib.hid (stepI_lab (hs := hs) (lb := lb) (its := its) (sv := sv) (n := x) j hj1 (by have := Hlen3.out; omega))
                      obtain ⟨lab, hlab⟩ : ∃ lab, lab = lb[j] := ⟨_, rfl⟩
                      rw [← hlab] at Hst hcel2
                      clear hlab hcH
                      go_wp2_with (at_builtin; go_must (refine wpList_append_own _ rfl (.tmp 98) (.tmp 108) 49 rfl w3.heap.size 55 i0 (.agg #[.string ⟨#[]⟩, .int .i64 0, .bool false, .bool false]) 4 32 Try.underlying49 hi0 iz0 iz1 iz2 rfl (by decide) _ _ _ rfl (Rel.out.own.alloc _) ⟨wr.heap.size, 0, none⟩ 1 1 [.string lab, .int .i64 (-1), .bool false, .bool false] rfl rfl (fun j u hu => item_new1 wr _ _ _ _ _ hu) (one_item _ _ _ _) g63 gby (hbs.out _) ?_); intro v2 w4 hown3 hgrow3 _)
                      go_light
                      exact ⟨⟨k + 1, _, sv, by omega, by go_num, Rel.out.pushed (by decide) Hdr.out Hst.out ((Below.refl _ _).alloc (Nat.le_refl _) _) hgrow3 hown3⟩, by simp [intOf]; omega⟩
                    · have h3' : (nl : Int) < y := by omega
                      have hxs : (m : Int) + nl < x := by omega
                      clear h3
                      obtain ⟨z, hzz⟩ : ∃ z : Int, y - (nl : Nat) = z := ⟨_, rfl⟩
                      have hz0 : 1 ≤ z := by omega
                      have hzm : z ≤ 1000000 := by omega
                      by_cases h4 : z ≤ sv.length
                      · obtain ⟨j, hj⟩ : ∃ j : Nat, z - 1 = (j : Nat) := ⟨(z - 1).toNat, by omega⟩
                        have hjm : j < sv.length := by omega
                        obtain ⟨g2, rfl, hg1, hg2⟩ := own_at Rel.out.sav (by omega)
                        have hcel2 := (Rel.out.sav.cellAt j (by omega)).trans (show (svC sv)[j]? = some (.int .i64 (sv[j] : Nat)) by unfold svC; simp [hjm])
                        have Hst := Lib.hid (stepI_back (hs := hs) (lb := lb) (its := its) (sv := sv) (n := x) j hjm (by have := Hlen3.out; have := Hlen2.out; omega))
                        obtain ⟨bk, hbk⟩ : ∃ bk : Int, bk = (sv[j] : Nat) := ⟨_, rfl⟩
                        rw [← hbk] at Hst hcel2
                        clear hbk
                        go_wp2_with (at_builtin; go_must (refine wpList_append_own _ rfl (.tmp 119) (.tmp 130) 49 rfl w3.heap.size 55 i0 (.agg #[.string ⟨#[]⟩, .int .i64 0, .bool false, .bool false]) 4 32 Try.underlying49 hi0 iz0 iz1 iz2 rfl (by decide) _ _ _ rfl (Rel.out.own.alloc _) ⟨wr.heap.size, 0, none⟩ 1 1 [.string ⟨#[]⟩, .int .i64 bk, .bool false, .bool false] rfl rfl (fun j u hu => item_new1 wr _ _ _ _ _ hu) (one_item _ _ _ _) g63 gby (hbs.out _) ?_); intro v2 w4 hown3 hgrow3 _)
                        go_light
                        exact ⟨⟨k + 1, _, sv, by omega, by go_num, Rel.out.pushed (by decide) Hdr.out Hst.out ((Below.refl _ _).alloc (Nat.le_refl _) _) hgrow3 hown3⟩, by simp [intOf]; omega⟩
                      · have h4' : (sv.length : Int) < z := by omega
                        have HF := Lib.hid (itemsF_none Hok.out Hnu.out (Rel.out.eq.trans (by rw [Hdr.out, runI_none (stepI_none H0.out H1.out (by have := Hlen3.out; have := Hlen2.out; omega))])))
                        clear h4
                        go_wp2
                        go_ret2
                        exact .err HF.out (Hbw3.out.trans (Rel.out.bel.mono Hbw3.out.size))
            · obtain rfl : k = n := by omega
              have Hrun := Lib.hid (show runI hs lb l [] [] = some its by rw [Rel.out.eq, List.drop_of_length_le (by have := Hlen.out; omega)]; rfl)
              have Hbel := Lib.hid (Hbw3.out.trans (Rel.out.bel.mono Hbw3.out.size))
              by_cases hmany : 2000 < its.length
              · have HF := Lib.hid (itemsF_many Hok.out Hnu.out Hrun.out hmany)
                go_wp2
                go_ret2
                exact .err HF.out Hbel.out
              · have HF := Lib.hid (itemsF_ok Hok.out Hnu.out Hrun.out hmany)
                have Hown := Lib.hid (own_base' Rel.out.own Hbw3.out.size)
                have hmany' : its.length ≤ 2000 := by omega
                clear hmany
                go_wp2
                go_ret2
                exact ⟨A1, e1, by rw [HF.out]; rfl, by rw [HF.out]; exact Hown.out, Hbel.out⟩
        · obtain rfl := hbi3.not hnu
          have HF := Lib.hid (itemsF_code (hs := hs) (lb := lb) (l := l) Hok.out hnu)
          clear hnu
          go_wp2
          go_ret2
          exact .err HF.out Hbw3.out
  · obtain rfl := (Hbi.out).not hlok
    have HF := Lib.hid (itemsF_list (hs := hs) (l := l) (fun h => hlok h.1))
    clear hlok
    go_wp2
    go_ret2
    exact .err HF.out (hbq.trans ((Hbd.out _).mono (by omega)))
end Go.Proofs.Ytbccmookfpcbgaa.Tok
