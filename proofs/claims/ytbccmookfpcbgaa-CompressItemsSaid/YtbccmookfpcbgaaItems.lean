/- Contract of compress.Items. -/
import Derived.Test.YtbccmookfpcbgaaItemMath
import Derived.Test.YtbccmookfpcbgaaAppend
namespace Go.Proofs.Ytbccmookfpcbgaa.Tok
open Go.RowKit Go.Proofs.Ytbccmookfpcbgaa

def ItemsGood (hs : List HypT) (lb : List ByteArray) (l : List Int) (T : TypeId) (w : World) (e : Ending) (w' : World) : Prop :=
  ∃ A c, e = .returned (.tuple #[.slice A (itemsF hs lb l).1.length c, .int .i64 ((itemsF hs lb l).2 : Nat)]) ∧
    w'.ownsRow w.heap.size T 4 (.slice A (itemsF hs lb l).1.length c) (itemsF hs lb l).1.length (itmC (itemsF hs lb l).1) ∧ Below w.heap.size w w'
theorem ItemsGood.err {hs : List HypT} {lb : List ByteArray} {l : List Int} {T : TypeId} {w w' : World} {er : Nat} (h : itemsF hs lb l = ([], er)) (hb : Below w.heap.size w w') :
    ItemsGood hs lb l T w (.returned (.tuple #[.slice none 0 0, .int .i64 (er : Nat)])) w' := by
  refine ⟨none, 0, by rw [h]; rfl, ?_, hb⟩
  rw [h]
  exact World.ownsRow_nil _ _ _ _
theorem infoItem : (Try.prog.info? 54).map (fun i => (i.zero, i.size, i.bytes)) = some (some (.agg #[.string ⟨#[]⟩, .int .i64 0, .bool false, .bool false]), 4, 32) := by kernel_rfl
theorem infoInt' : (Try.prog.info? 3).map (fun i => (i.zero, i.size, i.bytes)) = some (some (.int .i64 0), 1, 8) := by kernel_rfl
theorem sizeFrame : (Try.prog.info? 45).map (·.size) = some 8 := by kernel_rfl
theorem sizeItem : (Try.prog.info? 54).map (·.size) = some 4 := by kernel_rfl

theorem own_base' {w : World} {base base' : Nat} {e : TypeId} {size n : Nat} {v : Value} {xs : List Value} (h : w.ownsRow base e size v n xs) (hb : base' ≤ base) : w.ownsRow base' e size v n xs :=
  ⟨h.1, h.2.imp id fun ⟨g, cap, cur, a, b, c⟩ => ⟨g, cap, cur, a, by omega, c⟩⟩
/-- A whole row loaded under a guard that is met. -/
theorem wpList_load_row_g {P : Program} {ops : Array Oper} {rest : List Oper} {o : Oper} {a : Act} {w : World} {Q : Exit → Act → World → Prop} (hw : Region.wanted o (yielded ops a.tmps) = true) (ty : TypeId) (x : Operand) (ho : o.op = .load ty x)
    (g : Nat) (hx : a.eval x = .pointer (some ⟨g, 0, none⟩)) (t : TypeId) (cs : Array Value) (fr : Nat × Nat) (d : TypeDesc) (hg : w.heap[g]? = some (.cells cs t fr))
    (hu : P.underlying ty = some d) (hd : (match d with | .struct _ | .array _ _ => true | _ => false) = true) (hi : (P.info? ty).map (·.size) = some cs.size)
    (h : wpList P ops Q rest (a.put o.dst (.agg cs)) w) : wpList P ops Q (o :: rest) a w :=
  wpList_step fun K hK => by
    rw [if_pos hw]
    exact wp_load_row ty x ho g hx t cs fr d hg hu hd hi (hK _ _ h)

set_option maxHeartbeats 3200000 in
set_option maxRecDepth 8000 in
theorem items_any (x0 : ByteArray) (x1 : Bool) (H A3 A4 A5 A6 A7 : Option Addr) (m hc n3 c3 n4 c4 n5 c5 n6 c6 n7 c7 : Nat) (Lb L : Option Addr) (nl cl n c : Nat) (hs : List HypT) (lb : List ByteArray) (l : List Int) (w : World)
    (hm : m ≤ 60) (hnl : nl ≤ 100) (hn : n ≤ 5000) (hsz : ∀ s ∈ lb, s.size ≤ 9223372036854775807)
    (hh : Rd w w.heap.size 3 H m (hs.flatMap hypV)) (hlb : Rd w w.heap.size 1 Lb nl (lb.map Value.string)) (hl : Rd w w.heap.size 1 L n (l.map (Value.int .i64))) :
    Calls Try.prog 17 #[.agg #[.string x0, .bool x1, .slice H m hc, .slice A3 n3 c3, .slice A4 n4 c4, .slice A5 n5 c5, .slice A6 n6 c6, .slice A7 n7 c7], .agg #[.slice Lb nl cl, .slice L n c]] w (ItemsGood hs lb l 54 w) := by
  obtain ⟨i0, hi0, iz0, iz1, iz2⟩ := info_parts infoItem
  obtain ⟨j0, hj0, jz0, jz1, jz2⟩ := info_parts infoInt'
  have Hh := Lib.hid hh
  have Hlb := Lib.hid hlb
  have Hl := Lib.hid hl
  have Hsz := Lib.hid hsz
  clear hh hlb hl hsz
  go_enter Try.func17, Try.ntmps17
  go_wp2_with fail
  generalize hwq : World.alloc (World.alloc _ _) _ = wq
  have hbq : Below w.heap.size w wq := by subst hwq; exact ((Below.refl _ _).alloc (Nat.le_refl _) _).alloc (by simp) _
  have hsq : wq.heap.size = w.heap.size + 2 := by subst hwq; simp
  have Hr0 := Lib.hid (show wq.heap[w.heap.size]? = some (.cells #[.string x0, .bool x1, .slice H m hc, .slice A3 n3 c3, .slice A4 n4 c4, .slice A5 n5 c5, .slice A6 n6 c6, .slice A7 n7 c7] 45 (0, 0)) by
    subst hwq; rw [heap_alloc_old _ _ (by simp)]; exact heap_alloc_new _ _)
  have Hr1 := Lib.hid (show wq.heap[w.heap.size + 1]? = some (.cells #[.slice Lb nl cl, .slice L n c] 25 (0, 0)) by
    subst hwq; have := heap_alloc_new (w.alloc (.cells #[.string x0, .bool x1, .slice H m hc, .slice A3 n3 c3, .slice A4 n4 c4, .slice A5 n5 c5, .slice A6 n6 c6, .slice A7 n7 c7] 45)) (.cells #[.slice Lb nl cl, .slice L n c] 25); rwa [show (w.alloc (.cells #[.string x0, .bool x1, .slice H m hc, .slice A3 n3 c3, .slice A4 n4 c4, .slice A5 n5 c5, .slice A6 n6 c6, .slice A7 n7 c7] 45)).heap.size = w.heap.size + 1 by simp] at this)
  clear hwq
  have Hsq := Lib.hid hsq
  clear hsq
  have Hall : Hid (∀ w1, Below (w.heap.size + 2) wq w1 → Below w.heap.size w w1 ∧ w.heap.size + 2 ≤ w1.heap.size ∧
      w1.heap[w.heap.size]? = some (.cells #[.string x0, .bool x1, .slice H m hc, .slice A3 n3 c3, .slice A4 n4 c4, .slice A5 n5 c5, .slice A6 n6 c6, .slice A7 n7 c7] 45 (0, 0)) ∧
      w1.heap[w.heap.size + 1]? = some (.cells #[.slice Lb nl cl, .slice L n c] 25 (0, 0)) ∧
      w1.cell? ⟨w.heap.size, 2, none⟩ = some (.slice H m hc) ∧ w1.cell? ⟨w.heap.size + 1, 0, none⟩ = some (.slice Lb nl cl) ∧ w1.cell? ⟨w.heap.size + 1, 1, none⟩ = some (.slice L n c)) := fun w1 h => by
    have r0 := (h.block w.heap.size (by omega)).trans Hr0.out
    have r1 := (h.block (w.heap.size + 1) (by omega)).trans Hr1.out
    refine ⟨hbq.trans (h.mono (by omega)), ?_, r0, r1, ?_, ?_, ?_⟩
    · have := h.size; have := Hsq.out; omega
    · rw [cell_of_row _ _ _ _ _ _ r0]; rfl
    · rw [cell_of_row _ _ _ _ _ _ r1]; rfl
    · rw [cell_of_row _ _ _ _ _ _ r1]; rfl
  have HR : Hid (∀ w1, Below (w.heap.size + 2) wq w1 → Rd w1 w1.heap.size 3 H m (hs.flatMap hypV) ∧ Rd w1 w1.heap.size 1 Lb nl (lb.map Value.string) ∧ Rd w1 w1.heap.size 1 L n (l.map (Value.int .i64))) := fun w1 h => by
    have hb := (Hall.out w1 h).1
    exact ⟨(Hh.out.below hb).more hb.size, (Hlb.out.below hb).more hb.size, (Hl.out.below hb).more hb.size⟩
  clear Hh Hlb Hl
  have HB0 := Lib.hid (Below.refl (w.heap.size + 2) wq)
  obtain ⟨-, hz, -, -, c2, c0, c1⟩ := Hall.out wq HB0.out
  go_wp2_with fail
  refine (areLabels_any Lb nl cl lb wq (by omega) Hsz.out (HR.out wq HB0.out).2.1).mono ?_
  rintro e w1 ⟨hbi, hb1'⟩
  have hb1 : Below (w.heap.size + 2) wq w1 := hb1'.mono (by have := Hsq.out; omega)
  have Hb1 := Lib.hid hb1
  have Hbi := Lib.hid hbi
  clear hb1' hb1 hbi c2 c0 c1
  obtain ⟨hbw1, hz1, hrow1, -, c2, c0, c1⟩ := Hall.out w1 Hb1.out
  have Hrow1 := Lib.hid hrow1
  have Hbw1 := Lib.hid hbw1
  clear hrow1 hbw1
  by_cases hlok : LabsOk lb
  · obtain rfl := (Hbi.out).of hlok
    have Hlok := Lib.hid hlok
    clear hlok
    go_wp2_with (refine wpList_load_row_g rfl 45 (.tmp 2) rfl (w.heap.size) rfl 45 #[.string x0, .bool x1, .slice H m hc, .slice A3 n3 c3, .slice A4 n4 c4, .slice A5 n5 c5, .slice A6 n6 c6, .slice A7 n7 c7] (0, 0) _ Hrow1.out Try.underlying45 rfl sizeFrame ?_)
    refine (hasMand_any x0 x1 H A3 A4 A5 A6 A7 m hc n3 c3 n4 c4 n5 c5 n6 c6 n7 c7 Lb nl cl hs lb w1 (by omega) (by omega) (HR.out w1 Hb1.out).1 (HR.out w1 Hb1.out).2.1).mono ?_
    rintro e w2 ⟨hbi2, hb2'⟩
    have Hb2 := Lib.hid (Hb1.out.trans (hb2'.mono hz1))
    have Hbi2 := Lib.hid hbi2
    clear hb2' hbi2 c2 c0 c1 Hrow1
    obtain ⟨hbw2, hz2, -, -, c2, c0, c1⟩ := Hall.out w2 Hb2.out
    have Hbw2 := Lib.hid hbw2
    clear hbw2
    by_cases hma : Mand hs lb
    · obtain rfl := (Hbi2.out).of hma
      have HF := Lib.hid (itemsF_list (hs := hs) (lb := lb) (l := l) (fun h => h.2 hma))
      clear hma
      go_wp2
      go_ret2
      exact .err HF.out Hbw2.out
    · obtain rfl := (Hbi2.out).not hma
      have Hok := Lib.hid (And.intro Hlok.out hma)
      clear hma
      go_wp2_with fail
      refine (areNumbers_any L n c l w2 (by omega) (HR.out w2 Hb2.out).2.2).mono ?_
      rintro e w' ⟨hbi3, rfl⟩
      by_cases hnu : NumOk l
      · obtain rfl := hbi3.of hnu
        have Hnu := Lib.hid hnu
        clear hnu
        have Hlen := Lib.hid (show l.length = n by have := (HR.out w2 Hb2.out).2.2.len; simp at this; omega)
        have Hlen2 := Lib.hid (show lb.length = nl by have := (HR.out w2 Hb2.out).2.1.len; simp at this; omega)
        have Hlen3 := Lib.hid (show hs.length = m by have := (HR.out w2 Hb2.out).1.len; rw [flat3_len' hypV (fun _ => rfl)] at this; omega)
        go_wp2
        go_loopw [6, 7, 30] (fun v u i wr => ∃ (k : Nat) (its : List Itm) (sv : List Nat), k ≤ n ∧ i = .int .i64 k ∧ ItRel hs lb l 54 3 w2.heap.size w2 v u k its sv wr) (fun _ _ i _ => n - (intOf i).toNat)
        case atStart => exact ⟨0, [], [], Nat.zero_le _, rfl, ItRel.start _⟩
        case round =>
          obtain ⟨k, its, sv, hk, rfl, hrel⟩ := hrel
          have Rel := Lib.hid hrel
          clear hrel c2 c0 c1
          obtain ⟨-, -, -, -, c2, c0, c1⟩ := Hall.out wr (Hb2.out.trans (Rel.out.bel.mono hz2))
          obtain ⟨A1, e1, rfl⟩ := own_slice Rel.out.own
          obtain ⟨A2, e2, rfl⟩ := own_slice Rel.out.sav
          have hni := Rel.out.ni
          have hlt0 : w.heap.size < wr.heap.size := by have := Rel.out.siz; omega
          have hlt1 : w.heap.size + 1 < wr.heap.size := by have := Rel.out.siz; omega
          have hns := Rel.out.ns
          by_cases hlt : k < n
          · have hk1 : k < l.length := by have := Hlen.out; omega
            obtain ⟨bL, oL, rfl, hbL, hcL⟩ := (HR.out w2 Hb2.out).2.2.pos (by omega)
            have hcell := (Rel.out.bel.cell (p := ⟨bL, oL + k, none⟩) hbL).trans (hcL k (.int .i64 l[k]) (by simp [hk1]))
            obtain ⟨hx1, hx2, hx3⟩ := Hnu.out.at hk1
            have Hx3 := Lib.hid (fun h => Rel.out.pos (hx3 h))
            have Hdr := Lib.hid (List.drop_eq_getElem_cons hk1)
            have Hla := Lib.hid (last_take l k hk1)
            obtain ⟨x, hx⟩ : ∃ x, x = l[k] := ⟨_, rfl⟩
            rw [← hx] at hcell hx1 hx2 Hx3 Hdr Hla
            clear hcL hx hx3
            have g63 : its.length + 1 ≤ maxLen := by simp only [maxLen]; omega
            have gby : (its.length + 1) * 32 ≤ 140737488355328 := by omega
            have hbs : Hid (∀ o o', w2.heap.size ≤ ((wr.alloc o).alloc o').heap.size) := fun o o' => by have := Rel.out.siz; simp; omega
            by_cases h0 : x = 0
            · subst h0
              have hpos := Hx3.out rfl
              obtain ⟨p, hp⟩ : ∃ p, its.length = p + 1 := ⟨its.length - 1, by omega⟩
              obtain ⟨g, rfl, hg1, hg2⟩ := own_at Rel.out.own hpos
              have hp1 : (its.length : Int) - 1 = (p : Nat) := by omega
              have hpl : p < its.length := by omega
              obtain ⟨bv, hbv⟩ : ∃ bv, wr.cell? ⟨g, p * 4 + 3, none⟩ = some bv := ⟨_, (Rel.out.own.cellAt (p * 4 + 3) (by omega)).trans (List.getElem?_eq_getElem (by rw [itmC_len]; omega))⟩
              have hfz := Rel.out.own.frozenAt (p * 4 + 3)
              have Hsv := Lib.hid (Rel.out.sav.kept (Rel.out.own.stored (p * 4 + 3) (.bool true)).2 (own_apart' Rel.out.sav Rel.out.own (by decide)))
              have hnew : Hid (∀ o j u, [Value.int .i64 (p : Nat)][j]? = some u → (((wr.setCell ⟨g, p * 4 + 3, none⟩ (.bool true)).alloc o).alloc (.cells #[.int .i64 (p : Nat)] 3)).cell? ((⟨wr.heap.size + 1, 0, none⟩ : Addr).add j) = some u) := fun o j u hu => by
                have h1 := int_new1 ((wr.setCell ⟨g, p * 4 + 3, none⟩ (.bool true)).alloc o) 3 _ hu
                rwa [show ((wr.setCell ⟨g, p * 4 + 3, none⟩ (.bool true)).alloc o).heap.size = wr.heap.size + 1 by simp] at h1
              have s63 : sv.length + 1 ≤ maxLen := by simp only [maxLen]; omega
              have sby : (sv.length + 1) * 8 ≤ 140737488355328 := by omega
              have hbs1 : Hid (∀ a b o o', w2.heap.size ≤ (((wr.setCell a b).alloc o).alloc o').heap.size) := fun a b o o' => by have := Rel.out.siz; simp; omega
              have Hp := Lib.hid hp
              clear hp hpos
              go_wp2_with (at_builtin; go_must (refine wpList_append_own _ rfl (.tmp 54) (.tmp 58) 23 rfl w2.heap.size 3 j0 (.int .i64 0) 1 8 Try.underlying23 hj0 jz0 jz1 jz2 rfl (by decide) _ _ _ rfl ((Hsv.out.alloc _).alloc _) ⟨wr.heap.size + 1, 0, none⟩ 1 1 [.int .i64 (p : Nat)] rfl rfl (fun j u hu => hnew.out _ j u hu) (one_intc _) s63 sby (hbs1.out _ _ _ _) ?_); intro v2 w3 hown3 hgrow3 _)
              go_light
              exact ⟨⟨k + 1, _, _, by omega, by go_num, Rel.out.saved (by decide) Hdr.out Hp.out (((Below.refl _ _).alloc (by simp) _).alloc (by simp) _) hgrow3 hown3⟩, by simp [intOf]; omega⟩
            · by_cases h1 : x = -1
              · subst h1
                have Hst := Lib.hid (stepI_unknown (hs := hs) (lb := lb) (its := its) (sv := sv) (n := -1) rfl)
                go_wp2_with (at_builtin; go_must (refine wpList_append_own _ rfl (.tmp 96) (.tmp 98) 46 rfl w2.heap.size 54 i0 (.agg #[.string ⟨#[]⟩, .int .i64 0, .bool false, .bool false]) 4 32 Try.underlying46 hi0 iz0 iz1 iz2 rfl (by decide) _ _ _ rfl ((Rel.out.own.alloc _).alloc _) ⟨wr.heap.size + 1, 0, none⟩ 1 1 [.string ⟨#[]⟩, .int .i64 (-1), .bool true, .bool false] rfl rfl (fun j u hu => item_new2 wr _ _ _ _ _ _ hu) (one_item _ _ _ _) g63 gby (hbs.out _ _) ?_); intro v2 w3 hown3 hgrow3 _)
                go_light
                exact ⟨⟨k + 1, _, sv, by omega, by go_num, Rel.out.pushed (by decide) Hdr.out Hst.out (((Below.refl _ _).alloc (Nat.le_refl _) _).alloc (by simp) _) hgrow3 hown3⟩, by simp [intOf]; omega⟩
              · have e0 : (x == 0) = false := by rw [beq_eq_false_iff_ne]; exact h0
                have e1 : (x == -1) = false := by rw [beq_eq_false_iff_ne]; exact h1
                have hx0 : 1 ≤ x := by omega
                have H0 := Lib.hid h0
                have H1 := Lib.hid h1
                clear h0 h1
                by_cases h2 : x ≤ m
                · obtain ⟨j, hj⟩ : ∃ j : Nat, x - 1 = (j : Nat) := ⟨(x - 1).toNat, by omega⟩
                  have hjm : j < m := by omega
                  obtain ⟨bh, oh, rfl, hbh, hcH⟩ := (HR.out w2 Hb2.out).1.pos (by omega)
                  have hj1 : j < hs.length := by have := Hlen3.out; omega
                  have hcel2 := (Rel.out.bel.cell (p := ⟨bh, oh + j * 3, none⟩) hbh).trans (hcH (j * 3) _ ((flat3' hypV (fun _ => rfl) hs j 0 hj1 (by omega)).trans rfl))
                  have hbh2 : bh < wr.heap.size := by have := Rel.out.siz; omega
                  have Hst := Lib.hid (stepI_hyp (hs := hs) (lb := lb) (its := its) (sv := sv) (n := x) j hj1 (by omega))
                  obtain ⟨lab, hlab⟩ : ∃ lab, lab = hs[j].1 := ⟨_, rfl⟩
                  rw [← hlab] at Hst hcel2
                  clear hlab hcH
                  go_wp2_with (at_builtin; go_must (refine wpList_append_own _ rfl (.tmp 96) (.tmp 98) 46 rfl w2.heap.size 54 i0 (.agg #[.string ⟨#[]⟩, .int .i64 0, .bool false, .bool false]) 4 32 Try.underlying46 hi0 iz0 iz1 iz2 rfl (by decide) _ _ _ rfl ((Rel.out.own.alloc _).alloc _) ⟨wr.heap.size + 1, 0, none⟩ 1 1 [.string lab, .int .i64 (-1), .bool false, .bool false] rfl rfl (fun j u hu => item_new2 wr _ _ _ _ _ _ hu) (one_item _ _ _ _) g63 gby (hbs.out _ _) ?_); intro v2 w3 hown3 hgrow3 _)
                  go_light
                  exact ⟨⟨k + 1, _, sv, by omega, by go_num, Rel.out.pushed (by decide) Hdr.out Hst.out (((Below.refl _ _).alloc (Nat.le_refl _) _).alloc (by simp) _) hgrow3 hown3⟩, by simp [intOf]; omega⟩
                · have h2' : (m : Int) < x := by omega
                  clear h2
                  obtain ⟨y, hy⟩ : ∃ y : Int, x - (m : Nat) = y := ⟨_, rfl⟩
                  have hy0 : 1 ≤ y := by omega
                  have hym : y ≤ 1000000 := by omega
                  by_cases h3 : y ≤ nl
                  · obtain ⟨j, hj⟩ : ∃ j : Nat, y - 1 = (j : Nat) := ⟨(y - 1).toNat, by omega⟩
                    have hjm : j < nl := by omega
                    obtain ⟨bh, oh, rfl, hbh, hcH⟩ := (HR.out w2 Hb2.out).2.1.pos (by omega)
                    have hj1 : j < lb.length := by have := Hlen2.out; omega
                    have hcel2 := (Rel.out.bel.cell (p := ⟨bh, oh + j, none⟩) hbh).trans (hcH j (.string lb[j]) (by simp [hj1]))
                    have hbh2 : bh < wr.heap.size := by have := Rel.out.siz; omega
                    have Hst := Lib.hid (stepI_lab (hs := hs) (lb := lb) (its := its) (sv := sv) (n := x) j hj1 (by have := Hlen3.out; omega))
                    obtain ⟨lab, hlab⟩ : ∃ lab, lab = lb[j] := ⟨_, rfl⟩
                    rw [← hlab] at Hst hcel2
                    clear hlab hcH
                    go_wp2_with (at_builtin; go_must (refine wpList_append_own _ rfl (.tmp 96) (.tmp 98) 46 rfl w2.heap.size 54 i0 (.agg #[.string ⟨#[]⟩, .int .i64 0, .bool false, .bool false]) 4 32 Try.underlying46 hi0 iz0 iz1 iz2 rfl (by decide) _ _ _ rfl ((Rel.out.own.alloc _).alloc _) ⟨wr.heap.size + 1, 0, none⟩ 1 1 [.string lab, .int .i64 (-1), .bool false, .bool false] rfl rfl (fun j u hu => item_new2 wr _ _ _ _ _ _ hu) (one_item _ _ _ _) g63 gby (hbs.out _ _) ?_); intro v2 w3 hown3 hgrow3 _)
                    go_light
                    exact ⟨⟨k + 1, _, sv, by omega, by go_num, Rel.out.pushed (by decide) Hdr.out Hst.out (((Below.refl _ _).alloc (Nat.le_refl _) _).alloc (by simp) _) hgrow3 hown3⟩, by simp [intOf]; omega⟩
                  · have h3' : (nl : Int) < y := by omega
                    clear h3
                    obtain ⟨z, hzz⟩ : ∃ z : Int, y - (nl : Nat) = z := ⟨_, rfl⟩
                    have hz0 : 1 ≤ z := by omega
                    have hzm : z ≤ 1000000 := by omega
                    by_cases h4 : z ≤ sv.length
                    · obtain ⟨j, hj⟩ : ∃ j : Nat, z - 1 = (j : Nat) := ⟨(z - 1).toNat, by omega⟩
                      have hjm : j < sv.length := by omega
                      obtain ⟨g2, rfl, hg1, hg2⟩ := own_at Rel.out.sav (by omega)
                      have hcel2 := (Rel.out.sav.cellAt j (by omega)).trans (show (svC sv)[j]? = some (.int .i64 (sv[j] : Nat)) by unfold svC; simp [hjm])
                      have Hst := Lib.hid (stepI_back (hs := hs) (lb := lb) (its := its) (sv := sv) (n := x) j hjm (by have := Hlen3.out; have := Hlen2.out; omega))
                      obtain ⟨bk, hbk⟩ : ∃ bk : Int, bk = (sv[j] : Nat) := ⟨_, rfl⟩
                      rw [← hbk] at Hst hcel2
                      clear hbk
                      go_wp2_with (at_builtin; go_must (refine wpList_append_own _ rfl (.tmp 96) (.tmp 98) 46 rfl w2.heap.size 54 i0 (.agg #[.string ⟨#[]⟩, .int .i64 0, .bool false, .bool false]) 4 32 Try.underlying46 hi0 iz0 iz1 iz2 rfl (by decide) _ _ _ rfl ((Rel.out.own.alloc _).alloc _) ⟨wr.heap.size + 1, 0, none⟩ 1 1 [.string ⟨#[]⟩, .int .i64 bk, .bool false, .bool false] rfl rfl (fun j u hu => item_new2 wr _ _ _ _ _ _ hu) (one_item _ _ _ _) g63 gby (hbs.out _ _) ?_); intro v2 w3 hown3 hgrow3 _)
                      go_light
                      exact ⟨⟨k + 1, _, sv, by omega, by go_num, Rel.out.pushed (by decide) Hdr.out Hst.out (((Below.refl _ _).alloc (Nat.le_refl _) _).alloc (by simp) _) hgrow3 hown3⟩, by simp [intOf]; omega⟩
                    · have h4' : (sv.length : Int) < z := by omega
                      have HF := Lib.hid (itemsF_none Hok.out Hnu.out (Rel.out.eq.trans (by rw [Hdr.out, runI_none (stepI_none H0.out H1.out (by have := Hlen3.out; have := Hlen2.out; omega))])))
                      clear h4
                      go_wp2
                      go_ret2
                      exact .err HF.out (Hbw2.out.trans ((Rel.out.bel.alloc Rel.out.siz _).mono Hbw2.out.size))
          · obtain rfl : k = n := by omega
            have Hrun := Lib.hid (show runI hs lb l [] [] = some its by rw [Rel.out.eq, List.drop_of_length_le (by have := Hlen.out; omega)]; rfl)
            have Hbel := Lib.hid (Hbw2.out.trans (Rel.out.bel.mono Hbw2.out.size))
            by_cases hmany : 2000 < its.length
            · have HF := Lib.hid (itemsF_many Hok.out Hnu.out Hrun.out hmany)
              go_wp2
              go_ret2
              exact .err HF.out Hbel.out
            · have HF := Lib.hid (itemsF_ok Hok.out Hnu.out Hrun.out hmany)
              have Hown := Lib.hid (own_base' Rel.out.own Hbw2.out.size)
              have hmany' : its.length ≤ 2000 := by omega
              clear hmany
              go_wp2
              go_ret2
              exact ⟨A1, e1, by rw [HF.out]; rfl, by rw [HF.out]; exact Hown.out, Hbel.out⟩
      · obtain rfl := hbi3.not hnu
        have HF := Lib.hid (itemsF_code (hs := hs) (lb := lb) (l := l) Hok.out hnu)
        clear hnu
        go_wp2
        go_ret2
        exact .err HF.out Hbw2.out
  · obtain rfl := (Hbi.out).not hlok
    have HF := Lib.hid (itemsF_list (hs := hs) (l := l) (fun h => hlok h.1))
    clear hlok
    go_wp2
    go_ret2
    exact .err HF.out Hbw1.out
end Go.Proofs.Ytbccmookfpcbgaa.Tok
