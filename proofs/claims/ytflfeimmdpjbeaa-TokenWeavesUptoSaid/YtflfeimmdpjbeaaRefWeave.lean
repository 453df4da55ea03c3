/- The contract of the reference's Weave. -/
import Derived.Test.YtflfeimmdpjbeaaWeaveMath
import Derived.Test.YtflfeimmdpjbeaaRefNames
import Derived.Test.YtflfeimmdpjbeaaMem
namespace Go.Proofs.Ytflfeimmdpjbeaa.Tok
open Go.RowKit Go.Proofs.Ytflfeimmdpjbeaa

set_option maxHeartbeats 1600000 in
set_option maxRecDepth 4000 in
theorem rweave_any (A A' : Option Addr) (n m c d B B' : Nat) (gs ws : List ByteArray) (w : World) (hn : n ≤ 100) (hm : m ≤ 100) (hlg : gs.length = n) (hlw : ws.length = m)
    (hgs : ∀ g ∈ gs, g.size ≤ 3000) (hws : ∀ g ∈ ws, g.size ≤ 3000) (h1 : Rd w B 1 A n (gs.map Value.string)) (h2 : Rd w B' 1 A' m (ws.map Value.string)) :
    Calls Try.prog 40 #[.slice A n c, .slice A' m d] w fun e w' => e = .returned (.tuple #[.string ⟨(weaveR gs ws).1.toArray⟩, .int .i64 ((weaveR gs ws).2 : Nat)]) ∧ w = w' := by
  by_cases hne : n = m + 1
  · subst hne
    obtain ⟨b, off, rfl, hbB, hc1⟩ := h1.pos (by omega)
    have Hc1 := Lib.hid hc1
    have H2 := Lib.hid h2
    have Hszl := Lib.hid (szTo_le gs ws hgs hws)
    have Hgs := Lib.hid hgs
    have Hws := Lib.hid hws
    have Hlg := Lib.hid hlg
    have Hlw := Lib.hid hlw
    clear h1 h2 hc1 hgs hws hlg hlw
    have hb : (((m + 1 : Nat) : Int) != (m : Int) + 1) = false := by rw [bne_eq_false_iff_eq]; omega
    go_enter Try.func40, Try.ntmps40
    go_wp2
    go_loopw [6, 7] (fun z i wr => ∃ k : Nat, k ≤ m + 1 ∧ i = .int .i64 k ∧ z = .int .i64 (szTo gs ws k : Nat) ∧ (∀ j, j < k → okI gs ws j = true) ∧ w = wr) (fun _ i _ => (m + 1) - (intOf i).toNat)
    case atStart => exact ⟨0, Nat.zero_le _, rfl, rfl, fun j hj => absurd hj (by omega), rfl⟩
    case round =>
      obtain ⟨k, hk, rfl, rfl, hok, rfl⟩ := hrel
      have Hok := Lib.hid hok
      have hzb := Hszl.out k
      clear hok
      by_cases hlt : k < m + 1
      · have hkg : k < gs.length := by have := Hlg.out; omega
        have hgk : gAt gs k = gs[k] := gAt_get gs k hkg
        have hgs3 := Hgs.out _ (List.getElem_mem hkg)
        have hcell1 : w.cell? ⟨b, off + k, none⟩ = some (.string gs[k]) := Hc1.out k _ (by simp [hkg])
        obtain ⟨g, hg⟩ : ∃ g, g = gs[k] := ⟨_, rfl⟩
        rw [← hg] at hgk hgs3 hcell1
        have Hgk := Lib.hid hgk
        clear hg hgk
        have Hbad := Lib.hid (weave_bad gs ws (by have := Hlg.out; have := Hlw.out; omega) k hkg)
        have hs3 : g.size ≤ 281474976710656 := by omega
        cases hsp : allB spB g
        · have Hno := Lib.hid (Hbad.out (okI_gap gs ws k (gapB_no gs ws k Hgk.out (.inl hsp))))
          have Hsp := Lib.hid hsp
          clear hsp
          go_wp2_with (go_at_call 31; refine (rIsSpace_any g hs3 _).mono ?_; rintro e w' ⟨rfl, rfl⟩; rw [Hsp.out])
          all_goals (go_ret2; exact ⟨by rw [Hno.out]; rfl, rfl⟩)
        · have Hsp := Lib.hid hsp
          clear hsp
          by_cases hin : 0 < k ∧ k < m
          · obtain ⟨hin1, hin2⟩ := hin
            cases hnb : neB g
            · have Hno := Lib.hid (Hbad.out (okI_gap gs ws k (gapB_no gs ws k Hgk.out (.inr ⟨hnb, hin1, by have := Hlw.out; omega⟩))))
              have hemp := neB_false hnb
              have hemp2 : g.toList.isEmpty = true := by simpa using hemp
              clear hnb
              go_wp2_with (go_at_call 31; refine (rIsSpace_any g hs3 _).mono ?_; rintro e w' ⟨rfl, rfl⟩; rw [Hsp.out])
              go_ret2
              exact ⟨by rw [Hno.out]; rfl, rfl⟩
            · have hemp := neB_true hnb
              have hemp2 : g.toList.isEmpty = false := by simpa using hemp
              have Hgap := Lib.hid (gapB_of gs ws k Hgk.out Hsp.out (.inl hnb))
              clear hnb
              have hkw : k < ws.length := by have := Hlw.out; omega
              obtain ⟨b2, off2, hA2, hbB2, hc2⟩ := H2.out.pos (by omega)
              subst hA2
              have hcell2 : w.cell? ⟨b2, off2 + k, none⟩ = some (.string ws[k]) := hc2 k _ (by simp [hkw])
              have hwk : gAt ws k = ws[k] := gAt_get ws k hkw
              have hws3 := Hws.out _ (List.getElem_mem hkw)
              clear hc2
              obtain ⟨wd, hwd0⟩ : ∃ wd, wd = ws[k] := ⟨_, rfl⟩
              rw [← hwd0] at hwk hws3 hcell2
              have Hwk := Lib.hid hwk
              clear hwd0 hwk
              have hs4 : wd.size ≤ 281474976710656 := by omega
              have hzz := Lib.hid (show szTo gs ws (k + 1) = szTo gs ws k + g.size + wd.size by rw [szTo_succ, Hgk.out, Hwk.out, if_pos hkw])
              cases hwd : wordB wd
              · have Hno := Lib.hid (Hbad.out (okI_word gs ws k hkw (by rw [Hwk.out]; exact hwd)))
                have Hwd := Lib.hid hwd
                clear hwd
                go_wp2_with (first | (go_at_call 31; refine (rIsSpace_any g hs3 _).mono ?_; rintro e w' ⟨rfl, rfl⟩; rw [Hsp.out]) | (go_at_call 71; refine (rIsWord_any wd hs4 _).mono ?_; rintro e w' ⟨rfl, rfl⟩; rw [show (allB prB wd && neB wd) = _ from Hwd.out]))
                all_goals (go_ret2; exact ⟨by rw [Hno.out]; rfl, rfl⟩)
              · have Hyes : Hid (∀ j, j < k + 1 → okI gs ws j = true) := ok_succ Hok.out (okI_yes gs ws k Hgap.out (.inr (by rw [Hwk.out]; exact hwd)))
                have Hwd := Lib.hid hwd
                clear hwd
                go_wp2_with (first | (go_at_call 31; refine (rIsSpace_any g hs3 _).mono ?_; rintro e w' ⟨rfl, rfl⟩; rw [Hsp.out]) | (go_at_call 71; refine (rIsWord_any wd hs4 _).mono ?_; rintro e w' ⟨rfl, rfl⟩; rw [show (allB prB wd && neB wd) = _ from Hwd.out]))
                go_light
                all_goals first | (exfalso; rename_i hx; exact absurd (hemp2.symm.trans hx) (by simp)) | exact ⟨⟨k + 1, by omega, by go_num, (by rw [hzz.out]; try go_num), Hyes.out, trivial⟩, by simp [intOf]; omega⟩
          · by_cases hkm : k < m
            · have hk0 : (k : Int) ≤ 0 := by omega
              have Hgap := Lib.hid (gapB_of gs ws k Hgk.out Hsp.out (.inr (.inl (by omega))))
              clear hin
              have hkw : k < ws.length := by have := Hlw.out; omega
              obtain ⟨b2, off2, hA2, hbB2, hc2⟩ := H2.out.pos (by omega)
              subst hA2
              have hcell2 : w.cell? ⟨b2, off2 + k, none⟩ = some (.string ws[k]) := hc2 k _ (by simp [hkw])
              have hwk : gAt ws k = ws[k] := gAt_get ws k hkw
              have hws3 := Hws.out _ (List.getElem_mem hkw)
              clear hc2
              obtain ⟨wd, hwd0⟩ : ∃ wd, wd = ws[k] := ⟨_, rfl⟩
              rw [← hwd0] at hwk hws3 hcell2
              have Hwk := Lib.hid hwk
              clear hwd0 hwk
              have hs4 : wd.size ≤ 281474976710656 := by omega
              have hzz := Lib.hid (show szTo gs ws (k + 1) = szTo gs ws k + g.size + wd.size by rw [szTo_succ, Hgk.out, Hwk.out, if_pos hkw])
              cases hwd : wordB wd
              · have Hno := Lib.hid (Hbad.out (okI_word gs ws k hkw (by rw [Hwk.out]; exact hwd)))
                have Hwd := Lib.hid hwd
                clear hwd
                go_wp2_with (first | (go_at_call 31; refine (rIsSpace_any g hs3 _).mono ?_; rintro e w' ⟨rfl, rfl⟩; rw [Hsp.out]) | (go_at_call 71; refine (rIsWord_any wd hs4 _).mono ?_; rintro e w' ⟨rfl, rfl⟩; rw [show (allB prB wd && neB wd) = _ from Hwd.out]))
                all_goals (go_ret2; exact ⟨by rw [Hno.out]; rfl, rfl⟩)
              · have Hyes : Hid (∀ j, j < k + 1 → okI gs ws j = true) := ok_succ Hok.out (okI_yes gs ws k Hgap.out (.inr (by rw [Hwk.out]; exact hwd)))
                have Hwd := Lib.hid hwd
                clear hwd
                go_wp2_with (first | (go_at_call 31; refine (rIsSpace_any g hs3 _).mono ?_; rintro e w' ⟨rfl, rfl⟩; rw [Hsp.out]) | (go_at_call 71; refine (rIsWord_any wd hs4 _).mono ?_; rintro e w' ⟨rfl, rfl⟩; rw [show (allB prB wd && neB wd) = _ from Hwd.out]))
                go_light
                all_goals exact ⟨⟨k + 1, by omega, by go_num, (by rw [hzz.out]; try go_num), Hyes.out, trivial⟩, by simp [intOf]; omega⟩
            · obtain rfl : k = m := by omega
              have Hgap := Lib.hid (gapB_of gs ws k Hgk.out Hsp.out (.inr (.inr (by have := Hlw.out; omega))))
              have Hyes : Hid (∀ j, j < k + 1 → okI gs ws j = true) := ok_succ Hok.out (okI_yes gs ws k Hgap.out (.inl (by have := Hlw.out; omega)))
              have hzz := Lib.hid (show szTo gs ws (k + 1) = szTo gs ws k + g.size by rw [szTo_succ, Hgk.out, if_neg (by have := Hlw.out; omega)]; rfl)
              clear hin hkm
              go_wp2_with (go_at_call 31; refine (rIsSpace_any g hs3 _).mono ?_; rintro e w' ⟨rfl, rfl⟩; rw [Hsp.out])
              all_goals (go_light; exact ⟨⟨k + 1, by omega, by go_num, (congrArg (fun z : Nat => Value.int .i64 (z : Int)) hzz.out.symm), Hyes.out, trivial⟩, by simp [intOf] <;> omega⟩)
      · obtain rfl : k = m + 1 := by omega
        have Hfin := Lib.hid (weave_ok gs ws (by have := Hlg.out; have := Hlw.out; omega) (fun j hj => Hok.out j (by have := Hlg.out; omega)))
        rw [Hlg.out, Hlw.out] at Hfin
        by_cases hbig : 40000 < szTo gs ws (m + 1)
        · have hv := Lib.hid (Hfin.out.trans (if_pos hbig))
          have hbig' : (40000 : Int) < (szTo gs ws (m + 1) : Nat) := by omega
          clear hbig
          go_wp2
          go_ret2
          exact ⟨by rw [hv.out]; rfl, rfl⟩
        · have hv := Lib.hid ((Hfin.out.trans (if_neg hbig)).trans (if_neg (by omega)))
          have hbig' : ¬ (40000 : Int) < (szTo gs ws (m + 1) : Nat) := by omega
          clear hbig
          go_wp2
          go_loopw [9, 10] (fun o i wr => ∃ (k : Nat) (o' : ByteArray), k ≤ m + 1 ∧ i = .int .i64 k ∧ o = .string o' ∧ Hid (o'.data.toList = wvTo gs ws k) ∧ o'.size ≤ 6000 * k ∧ w = wr) (fun _ i _ => (m + 1) - (intOf i).toNat)
          case atStart => exact ⟨0, _, Nat.zero_le _, rfl, rfl, rfl, Nat.le_refl _, rfl⟩
          case round =>
            obtain ⟨k, o, hk, rfl, rfl, ho, hosz, rfl⟩ := hrel
            by_cases hlt : k < m + 1
            · have hkg : k < gs.length := by have := Hlg.out; omega
              have hgk : gAt gs k = gs[k] := gAt_get gs k hkg
              have hgs3 := Hgs.out _ (List.getElem_mem hkg)
              have hcell1 : w.cell? ⟨b, off + k, none⟩ = some (.string gs[k]) := Hc1.out k _ (by simp [hkg])
              obtain ⟨g, hg⟩ : ∃ g, g = gs[k] := ⟨_, rfl⟩
              rw [← hg] at hgk hgs3 hcell1
              have Hgk := Lib.hid hgk
              clear hg hgk
              by_cases hkm : k < m
              · have hkw : k < ws.length := by have := Hlw.out; omega
                obtain ⟨b2, off2, hA2, hbB2, hc2⟩ := H2.out.pos (by omega)
                subst hA2
                have hcell2 : w.cell? ⟨b2, off2 + k, none⟩ = some (.string ws[k]) := hc2 k _ (by simp [hkw])
                have hwk : gAt ws k = ws[k] := gAt_get ws k hkw
                have hws3 := Hws.out _ (List.getElem_mem hkw)
                clear hc2
                obtain ⟨wd, hwd0⟩ : ∃ wd, wd = ws[k] := ⟨_, rfl⟩
                rw [← hwd0] at hwk hws3 hcell2
                have Hwk := Lib.hid hwk
                clear hwd0 hwk
                have hzz := Lib.hid (show (o ++ g ++ wd).data.toList = wvTo gs ws (k + 1) by rw [wvTo_succ, Hgk.out, Hwk.out, if_pos hkw]; exact ba_append (ba_append ho.out))
                have hzs : (o ++ g ++ wd).size ≤ 6000 * (k + 1) := by rw [ByteArray.size_append, ByteArray.size_append]; omega
                have Hzs := Lib.hid hzs
                clear hzs
                go_wp2
                go_light
                exact ⟨⟨k + 1, _, by omega, by go_num, rfl, hzz.out, Hzs.out, trivial⟩, by simp [intOf]; omega⟩
              · obtain rfl : k = m := by omega
                have hzz := Lib.hid (show (o ++ g).data.toList = wvTo gs ws (k + 1) by rw [wvTo_succ, Hgk.out, if_neg (by have := Hlw.out; omega), List.append_nil]; exact ba_append ho.out)
                have hzs : (o ++ g).size ≤ 6000 * (k + 1) := by rw [ByteArray.size_append]; omega
                have Hzs := Lib.hid hzs
                clear hzs hkm
                go_wp2
                go_light
                exact ⟨⟨k + 1, _, by omega, by go_num, rfl, hzz.out, Hzs.out, trivial⟩, by simp [intOf] <;> omega⟩
            · obtain rfl : k = m + 1 := by omega
              go_wp2
              go_ret2
              refine ⟨?_, rfl⟩
              rw [hv.out]
              exact congrArg (fun o => Ending.returned (.tuple #[.string o, .int .i64 0])) (ba_eq ho.out)
  · have hb : ((n : Int) != (m : Int) + 1) = true := by rw [bne_iff_ne]; omega
    have hfin := Lib.hid (weave_len gs ws (by omega))
    clear hne
    go_enter Try.func40, Try.ntmps40
    go_wp2
    go_ret2
    exact ⟨by rw [hfin.out]; rfl, rfl⟩
end Go.Proofs.Ytflfeimmdpjbeaa.Tok
