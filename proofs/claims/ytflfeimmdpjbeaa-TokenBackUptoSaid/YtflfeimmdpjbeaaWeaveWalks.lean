/- The contract of the program's Weave. -/
import Derived.Test.YtflfeimmdpjbeaaWeaveMath
import Derived.Test.YtflfeimmdpjbeaaAppend
import Derived.Test.YtflfeimmdpjbeaaTexts
import Derived.Laws.BytesArg
import Derived.Laws.IdiomStrings
namespace Go.Proofs.Ytflfeimmdpjbeaa.Tok
open Go.RowKit Go.Proofs.Ytflfeimmdpjbeaa

theorem infoByte : (Try.prog.info? 5).map (fun i => (i.zero, i.size, i.bytes)) = some (some (.int .u8 0), 1, 1) := by kernel_rfl

/-- string(b) of a row of bytes that the call owns. -/
theorem conv_own {w : World} {base n : Nat} {v : Value} {l : List UInt8} (h : w.ownsRow base 5 1 v n (bcells l)) : (convert 111 9 v).run Try.prog w = .ok (.string ⟨l.toArray⟩) w := by
  have hl : l.length = n := by have := h.1; rw [bcells_len] at this; omega
  rcases h.2 with ⟨rfl, h0⟩ | ⟨g, cap, cur, rfl, _⟩
  · have : l = [] := List.eq_nil_of_length_eq_zero (by omega)
    subst this
    exact run_convert_bytes_nil w 111 5 Try.underlying111 Try.underlying5 0 0 9 Try.underlying9
  · rw [← hl]
    refine run_convert_bytes_back w _ _ 5 ⟨g, 0, none⟩ cap l Try.underlying111 Try.underlying5 Try.underlying9 ?_
    intro j hj
    exact h.cells (g := g) rfl j _ (by unfold bcells; simp [hj])

set_option maxHeartbeats 3200000 in
set_option maxRecDepth 4000 in
theorem weave_any (A A' : Option Addr) (n m c d : Nat) (gs ws : List ByteArray) (w : World) (_hn : n ≤ 8001) (hm : m ≤ 8000) (hlg : gs.length = n) (hlw : ws.length = m)
    (hgs : ∀ g ∈ gs, g.size ≤ 3000) (hws : ∀ g ∈ ws, g.size ≤ 3000) (h1 : Rd w w.heap.size 1 A n (gs.map Value.string)) (h2 : Rd w w.heap.size 1 A' m (ws.map Value.string)) :
    Calls Try.prog 39 #[.slice A n c, .slice A' m d] w fun e w' => e = .returned (.tuple #[.string ⟨(weaveR gs ws).1.toArray⟩, .int .i64 ((weaveR gs ws).2 : Nat)]) ∧ Below w.heap.size w w' := by
  obtain ⟨i0, hi0, hz0, hz1, hz2⟩ := info_parts infoByte
  by_cases hne : n = m + 1
  · subst hne
    obtain ⟨b, off, rfl, hbB, hc1⟩ := h1.pos (by omega)
    have Hc1 := Lib.hid hc1
    have H2 := Lib.hid h2
    have Hszl := Lib.hid (szTo_le gs ws hgs hws)
    have Hgs := Lib.hid hgs
    have Hws := Lib.hid hws
    have Hlg := Lib.hid hlg
    have Hlw := Lib.hid hlw
    clear h1 h2 hc1 hgs hws hlg hlw
    have hb : (((m + 1 : Nat) : Int) != (m : Int) + 1) = false := by rw [bne_eq_false_iff_eq]; omega
    go_enter Try.func39, Try.ntmps39
    go_wp2
    go_loopw [6, 21] (fun z i wr => ∃ k : Nat, k ≤ m ∧ i = .int .i64 k ∧ z = .int .i64 (szTo gs ws k : Nat) ∧ (∀ j, j < k → okI gs ws j = true) ∧ w = wr) (fun _ i _ => (m + 1) - (intOf i).toNat)
    case atStart => exact ⟨0, Nat.zero_le _, rfl, rfl, fun j hj => absurd hj (by omega), rfl⟩
    case round =>
      obtain ⟨k, hk, rfl, rfl, hok, rfl⟩ := hrel
      have Hok := Lib.hid hok
      have hzb := Hszl.out k
      clear hok
      by_cases hlt : k < m + 1
      · have hkg : k < gs.length := by have := Hlg.out; omega
        have hgk : gAt gs k = gs[k] := gAt_get gs k hkg
        have hgs3 := Hgs.out _ (List.getElem_mem hkg)
        have hcell1 : w.cell? ⟨b, off + k, none⟩ = some (.string gs[k]) := Hc1.out k _ (by simp [hkg])
        obtain ⟨g, hg⟩ : ∃ g, g = gs[k] := ⟨_, rfl⟩
        rw [← hg] at hgk hgs3 hcell1
        have Hgk := Lib.hid hgk
        clear hg hgk
        have Hbad := Lib.hid (weave_bad gs ws (by have := Hlg.out; have := Hlw.out; omega) k hkg)
        have hs3 : g.size ≤ 281474976710656 := by omega
        have HG := Lib.hid (allB_congr onG g)
        cases hsp : allB spB g
        · have Hno := Lib.hid (Hbad.out (okI_gap gs ws k (gapB_no gs ws k Hgk.out (.inl hsp))))
          have Hsp := Lib.hid hsp
          clear hsp
          go_wp2_with (go_at_call 30; refine (IsSpace_any g hs3 _).mono ?_; rintro e w' ⟨rfl, rfl⟩; rw [HG.out, Hsp.out])
          all_goals (go_ret2; exact ⟨by rw [Hno.out]; rfl, Below.refl _ _⟩)
        · have Hsp := Lib.hid hsp
          clear hsp
          by_cases hin : 0 < k ∧ k < m
          · obtain ⟨hin1, hin2⟩ := hin
            cases hnb : neB g
            · have Hno := Lib.hid (Hbad.out (okI_gap gs ws k (gapB_no gs ws k Hgk.out (.inr ⟨hnb, hin1, by have := Hlw.out; omega⟩))))
              have hemp := neB_false hnb
              have hemp2 : g.toList.isEmpty = true := by simpa using hemp
              clear hnb
              go_wp2_with (go_at_call 30; refine (IsSpace_any g hs3 _).mono ?_; rintro e w' ⟨rfl, rfl⟩; rw [HG.out, Hsp.out])
              go_ret2
              exact ⟨by rw [Hno.out]; rfl, Below.refl _ _⟩
            · have hemp := neB_true hnb
              have hemp2 : g.toList.isEmpty = false := by simpa using hemp
              have Hgap := Lib.hid (gapB_of gs ws k Hgk.out Hsp.out (.inl hnb))
              clear hnb
              have hkw : k < ws.length := by have := Hlw.out; omega
              obtain ⟨b2, off2, hA2, hbB2, hc2⟩ := H2.out.pos (by omega)
              subst hA2
              have hcell2 : w.cell? ⟨b2, off2 + k, none⟩ = some (.string ws[k]) := hc2 k _ (by simp [hkw])
              have hwk : gAt ws k = ws[k] := gAt_get ws k hkw
              have hws3 := Hws.out _ (List.getElem_mem hkw)
              clear hc2
              obtain ⟨wd, hwd0⟩ : ∃ wd, wd = ws[k] := ⟨_, rfl⟩
              rw [← hwd0] at hwk hws3 hcell2
              have Hwk := Lib.hid hwk
              clear hwd0 hwk
              have hs4 : wd.size ≤ 281474976710656 := by omega
              have HW := Lib.hid (wordB_dev wd)
              have hkm' : ((k : Int) == (m : Int)) = false := by rw [beq_eq_false_iff_ne]; omega
              have hzz := Lib.hid (show szTo gs ws (k + 1) = szTo gs ws k + g.size + wd.size by rw [szTo_succ, Hgk.out, Hwk.out, if_pos hkw])
              cases hwd : wordB wd
              · have Hno := Lib.hid (Hbad.out (okI_word gs ws k hkw (by rw [Hwk.out]; exact hwd)))
                have Hwd := Lib.hid hwd
                clear hwd
                go_wp2_with (first | (go_at_call 30; refine (IsSpace_any g hs3 _).mono ?_; rintro e w' ⟨rfl, rfl⟩; rw [HG.out, Hsp.out]) | (go_at_call 77; refine (isWord_any wd hs4 _).mono ?_; rintro e w' ⟨rfl, rfl⟩; rw [HW.out, Hwd.out]))
                all_goals (go_ret2; exact ⟨by rw [Hno.out]; rfl, Below.refl _ _⟩)
              · have Hyes : Hid (∀ j, j < k + 1 → okI gs ws j = true) := ok_succ Hok.out (okI_yes gs ws k Hgap.out (.inr (by rw [Hwk.out]; exact hwd)))
                have Hwd := Lib.hid hwd
                clear hwd
                go_wp2_with (first | (go_at_call 30; refine (IsSpace_any g hs3 _).mono ?_; rintro e w' ⟨rfl, rfl⟩; rw [HG.out, Hsp.out]) | (go_at_call 77; refine (isWord_any wd hs4 _).mono ?_; rintro e w' ⟨rfl, rfl⟩; rw [HW.out, Hwd.out]))
                go_light
                all_goals first | (exfalso; rename_i hx; exact absurd (hemp2.symm.trans hx) (by simp)) | exact ⟨⟨k + 1, by omega, by go_num, (by rw [hzz.out]; try go_num), Hyes.out, trivial⟩, by simp [intOf]; omega⟩
          · by_cases hkm : k < m
            · have hk0 : (k : Int) ≤ 0 := by omega
              have Hgap := Lib.hid (gapB_of gs ws k Hgk.out Hsp.out (.inr (.inl (by omega))))
              clear hin
              have hkw : k < ws.length := by have := Hlw.out; omega
              obtain ⟨b2, off2, hA2, hbB2, hc2⟩ := H2.out.pos (by omega)
              subst hA2
              have hcell2 : w.cell? ⟨b2, off2 + k, none⟩ = some (.string ws[k]) := hc2 k _ (by simp [hkw])
              have hwk : gAt ws k = ws[k] := gAt_get ws k hkw
              have hws3 := Hws.out _ (List.getElem_mem hkw)
              clear hc2
              obtain ⟨wd, hwd0⟩ : ∃ wd, wd = ws[k] := ⟨_, rfl⟩
              rw [← hwd0] at hwk hws3 hcell2
              have Hwk := Lib.hid hwk
              clear hwd0 hwk
              have hs4 : wd.size ≤ 281474976710656 := by omega
              have HW := Lib.hid (wordB_dev wd)
              have hkm' : ((k : Int) == (m : Int)) = false := by rw [beq_eq_false_iff_ne]; omega
              have hzz := Lib.hid (show szTo gs ws (k + 1) = szTo gs ws k + g.size + wd.size by rw [szTo_succ, Hgk.out, Hwk.out, if_pos hkw])
              cases hwd : wordB wd
              · have Hno := Lib.hid (Hbad.out (okI_word gs ws k hkw (by rw [Hwk.out]; exact hwd)))
                have Hwd := Lib.hid hwd
                clear hwd
                go_wp2_with (first | (go_at_call 30; refine (IsSpace_any g hs3 _).mono ?_; rintro e w' ⟨rfl, rfl⟩; rw [HG.out, Hsp.out]) | (go_at_call 77; refine (isWord_any wd hs4 _).mono ?_; rintro e w' ⟨rfl, rfl⟩; rw [HW.out, Hwd.out]))
                all_goals (go_ret2; exact ⟨by rw [Hno.out]; rfl, Below.refl _ _⟩)
              · have Hyes : Hid (∀ j, j < k + 1 → okI gs ws j = true) := ok_succ Hok.out (okI_yes gs ws k Hgap.out (.inr (by rw [Hwk.out]; exact hwd)))
                have Hwd := Lib.hid hwd
                clear hwd
                go_wp2_with (first | (go_at_call 30; refine (IsSpace_any g hs3 _).mono ?_; rintro e w' ⟨rfl, rfl⟩; rw [HG.out, Hsp.out]) | (go_at_call 77; refine (isWord_any wd hs4 _).mono ?_; rintro e w' ⟨rfl, rfl⟩; rw [HW.out, Hwd.out]))
                go_light
                all_goals exact ⟨⟨k + 1, by omega, by go_num, (by rw [hzz.out]; try go_num), Hyes.out, trivial⟩, by simp [intOf]; omega⟩
            · obtain rfl : k = m := by omega
              have Hgap := Lib.hid (gapB_of gs ws k Hgk.out Hsp.out (.inr (.inr (by have := Hlw.out; omega))))
              have Hyes : Hid (∀ j, j < k + 1 → okI gs ws j = true) := ok_succ Hok.out (okI_yes gs ws k Hgap.out (.inl (by have := Hlw.out; omega)))
              have hzz : szTo gs ws (k + 1) = szTo gs ws k + g.size := by rw [szTo_succ, Hgk.out, if_neg (by have := Hlw.out; omega)]; rfl
              have Hfin := Lib.hid (weave_ok gs ws (by have := Hlg.out; have := Hlw.out; omega) (fun j hj => Hyes.out j (by have := Hlg.out; omega)))
              rw [Hlg.out, Hlw.out] at Hfin
              have hzb2 := Hszl.out (k + 1)
              have hkk : ((k : Int) == (k : Int)) = true := by rw [beq_iff_eq]
              clear hin hkm
              by_cases hbig : 40000 < szTo gs ws (k + 1)
              · have hv := Lib.hid (Hfin.out.trans (if_pos hbig))
                have hbig' : (40000 : Int) < (szTo gs ws k : Nat) + (g.size : Nat) := by omega
                clear hbig hzz
                go_wp2_with (go_at_call 30; refine (IsSpace_any g hs3 _).mono ?_; rintro e w' ⟨rfl, rfl⟩; rw [HG.out, Hsp.out])
                all_goals (go_ret2; exact ⟨by rw [hv.out]; rfl, Below.refl _ _⟩)
              · have hv := Lib.hid ((Hfin.out.trans (if_neg hbig)).trans (if_neg (by omega)))
                have hbig' : ¬ (40000 : Int) < (szTo gs ws k : Nat) + (g.size : Nat) := by omega
                have Hzz := Lib.hid hzz
                clear hbig hzz
                have hby1 : i0.bytes * (szTo gs ws k + g.size) ≤ 281474976710656 := by rw [hz2]; omega
                have h631 : szTo gs ws k + g.size ≤ maxLen := by simp only [maxLen]; omega
                have hck : 0 < k ∨ (k : Int) ≤ 0 := by omega
                rcases hck with hck | hck
                all_goals
                  go_wp2_with (first
                    | (go_at_call 30; refine (IsSpace_any g hs3 _).mono ?_; rintro e w' ⟨rfl, rfl⟩; rw [HG.out, Hsp.out])
                    | (at_make; go_must (refine wpList_make_own _ rfl _ _ 111 rfl w.heap.size 5 i0 (.int .u8 0) 1 Try.underlying111 hi0 hz0 hz1 _ _ _ (szTo gs ws k + g.size) rfl rfl rfl hby1 h631 (Nat.le_refl _) ?_); intro w1 hown1 hgrow1))
                  have hb1 : Below w.heap.size w w1 := (Below.refl _ w).grown hgrow1 (Nat.le_refl _) (fun j hj => by cases hj)
                  have hs1 := hb1.size
                  go_loopw [10, 75] (fun v i wr => ∃ j : Nat, j ≤ k ∧ i = .int .i64 j ∧ wr.ownsRow w.heap.size 5 1 v (wvTo gs ws j).length (bcells (wvTo gs ws j)) ∧ Below w.heap.size w wr ∧ w.heap.size ≤ wr.heap.size) (fun _ i _ => k - (intOf i).toNat)
                  case atStart => exact ⟨0, Nat.zero_le _, rfl, hown1, hb1, hs1⟩
                  case round =>
                    obtain ⟨j, hj, rfl, hown, hbw, hsw⟩ := hrel
                    have hjl := wvTo_len gs ws j
                    have hjz := Hszl.out j
                    by_cases hjk : j < k
                    · have hjg : j < gs.length := by have := Hlg.out; omega
                      have hjw : j < ws.length := by have := Hlw.out; omega
                      have hgj : gAt gs j = gs[j] := gAt_get gs j hjg
                      have hwj : gAt ws j = ws[j] := gAt_get ws j hjw
                      have hg3 := Hgs.out _ (List.getElem_mem hjg)
                      have hw3 := Hws.out _ (List.getElem_mem hjw)
                      obtain ⟨b2, off2, hA2, hbB2, hc2⟩ := H2.out.pos (by omega)
                      subst hA2
                      have hcg : wr.cell? ⟨b, off + j, none⟩ = some (.string gs[j]) := (hbw.cell hbB).trans (Hc1.out j _ (by simp [hjg]))
                      have hcw : wr.cell? ⟨b2, off2 + j, none⟩ = some (.string ws[j]) := (hbw.cell hbB2).trans (hc2 j _ (by simp [hjw]))
                      clear hc2
                      obtain ⟨gj, hgj0⟩ : ∃ gj, gj = gs[j] := ⟨_, rfl⟩
                      obtain ⟨wj, hwj0⟩ : ∃ wj, wj = ws[j] := ⟨_, rfl⟩
                      rw [← hgj0] at hgj hg3 hcg
                      rw [← hwj0] at hwj hw3 hcw
                      have Hgj := Lib.hid hgj
                      have Hwj := Lib.hid hwj
                      clear hgj hwj hgj0 hwj0
                      obtain ⟨L, hL⟩ : ∃ L, L = wvTo gs ws j := ⟨_, rfl⟩
                      have Hsu := Lib.hid (show wvTo gs ws (j + 1) = L ++ gj.data.toList ++ wj.data.toList by rw [wvTo_succ, Hgj.out, Hwj.out, if_pos hjw, hL])
                      rw [← hL] at hown hjl
                      have hll : L.length ≤ 48006000 := by omega
                      clear hL hjl hjz
                      have g63 : L.length + gj.size ≤ maxLen := by simp only [maxLen]; omega
                      have gby : L.length + gj.size ≤ 140737488355328 := by omega
                      have w63 : L.length + gj.size + wj.size ≤ maxLen := by simp only [maxLen]; omega
                      have wby : L.length + gj.size + wj.size ≤ 140737488355328 := by omega
                      have hstep := Lib.hid (show ∀ w2 v2 v, wr.grownBy w2 (Value.ownBlock v) → (∀ q, v.ownBlock = some q → w.heap.size ≤ q) → w2.ownsRow w.heap.size 5 1 v2 (L.length + gj.size) (bcells L ++ Lib.strCells gj) →
                          Below w.heap.size w w2 ∧ w.heap.size ≤ w2.heap.size ∧ w2.cell? ⟨b2, off2 + j, none⟩ = some (.string wj) from fun w2 v2 v hg hq _ => by
                        have hB := hbw.grown hg hsw hq
                        exact ⟨hB, hB.size, by rw [hB.cell (p := ⟨b2, off2 + j, none⟩) hbB2, ← hbw.cell (p := ⟨b2, off2 + j, none⟩) hbB2]; exact hcw⟩)
                      go_wp2_with (first
                        | (at_builtin; refine Lib.wpList_append_own_string _ rfl (.tmp 80) (.tmp 84) 111 9 rfl w.heap.size 5 i0 Try.underlying111 Try.underlying9 hi0 hz0 hz1 hz2 _ _ _ rfl hown gj rfl g63 gby hsw ?_; intro v2 w2 hown2 hgrow2 _; obtain ⟨hB2, hS2, hc2⟩ := hstep.out w2 v2 _ hgrow2 (fun q hq => (hown.lt q hq).1) hown2)
                        | (at_builtin; refine Lib.wpList_append_own_string _ rfl (.tmp 86) (.tmp 87) 111 9 rfl w.heap.size 5 i0 Try.underlying111 Try.underlying9 hi0 hz0 hz1 hz2 _ _ _ rfl hown2 wj rfl w63 wby hS2 ?_; intro v3 w3 hown3 hgrow3 _))
                      go_light
                      have hB3 := hB2.grown hgrow3 hS2 (fun q hq => (hown2.lt q hq).1)
                      refine ⟨⟨j + 1, by omega, by go_num, ?_, hB3, hB3.size⟩, by simp [intOf]; omega⟩
                      rw [Hsu.out, ← bcells_str, ← bcells_str, List.length_append, List.length_append]
                      simpa using hown3
                    · obtain rfl : j = k := by omega
                      have hcg : wr.cell? ⟨b, off + j, none⟩ = some (.string g) := (hbw.cell hbB).trans hcell1
                      obtain ⟨L, hL⟩ : ∃ L, L = wvTo gs ws j := ⟨_, rfl⟩
                      have Hsu := Lib.hid (show wvTo gs ws (j + 1) = L ++ g.data.toList by rw [wvTo_succ, Hgk.out, if_neg (by have := Hlw.out; omega), List.append_nil, hL])
                      rw [← hL] at hown hjl
                      have hll : L.length ≤ 48006000 := by omega
                      clear hL hjl hjz
                      have g63 : L.length + g.size ≤ maxLen := by simp only [maxLen]; omega
                      have gby : L.length + g.size ≤ 140737488355328 := by omega
                      have hcvo := Lib.hid (show ∀ (w2 : World) v2, w2.ownsRow w.heap.size 5 1 v2 (L.length + g.size) (bcells L ++ Lib.strCells g) → (convert 111 9 v2).run Try.prog w2 = .ok (.string ⟨(L ++ g.data.toList).toArray⟩) w2 from fun w2 v2 h => conv_own (by rw [← bcells_str]; exact h))
                      go_wp2_with (at_builtin; refine Lib.wpList_append_own_string _ rfl (.tmp 90) (.tmp 95) 111 9 rfl w.heap.size 5 i0 Try.underlying111 Try.underlying9 hi0 hz0 hz1 hz2 _ _ _ rfl hown g rfl g63 gby hsw ?_; intro v2 w2 hown2 hgrow2 _; have hcv := hcvo.out w2 v2 hown2)
                      go_ret2
                      exact ⟨by rw [hv.out, Hsu.out]; rfl, hbw.grown hgrow2 hsw (fun q hq => (hown.lt q hq).1)⟩
      · omega
  · have hb : ((n : Int) != (m : Int) + 1) = true := by rw [bne_iff_ne]; omega
    have hfin := Lib.hid (weave_len gs ws (by omega))
    clear hne
    go_enter Try.func39, Try.ntmps39
    go_wp2
    go_ret2
    exact ⟨by rw [hfin.out]; rfl, Below.refl _ _⟩
end Go.Proofs.Ytflfeimmdpjbeaa.Tok
