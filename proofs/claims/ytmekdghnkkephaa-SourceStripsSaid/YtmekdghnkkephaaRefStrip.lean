/- Contract of the reference's Strip. -/
import Derived.Test.YtmekdghnkkephaaHas
namespace Go.Proofs.Ytmekdghnkkephaa.Tok
open Go.RowKit Go.Proofs.Ytmekdghnkkephaa

theorem infoRCom : (Try.prog.info? 38).map (fun i => (i.zero, i.size, i.bytes)) = some (some (.agg #[.string ⟨#[]⟩, .int .i64 0, .int .i64 0, .int .i64 0]), 4, 40) := by kernel_rfl

/-- What the reference's Strip has made of the text: the same, its comments of its own type. -/
def RStripGood (s : ByteArray) (w : World) (e : Ending) (w' : World) : Prop :=
  ∃ (A A' : Option Addr) (c c' : Nat) (ws : List (Nat × Nat)) (cs : List (Nat × Nat × Nat)) (a er : Nat),
    e = .returned (.tuple #[.slice A ws.length c, .slice A' cs.length c', .int .i64 (a : Nat), .int .i64 (er : Nat)]) ∧
    (∃ ts a0 er0, ScanIs s ts a0 er0 ∧ (⟨ws, cs, a, er⟩ : SR) = if er0 = 0 then stripF s ts 0 false [] [] else ⟨[], [], a0, er0⟩) ∧
    w'.ownsRow w.heap.size 33 2 (.slice A ws.length c) ws.length (cellsOf s ws) ∧
    w'.ownsRow w.heap.size 38 4 (.slice A' cs.length c') cs.length (comCells s cs) ∧ Below w.heap.size w w'

theorem rstrip_err {s : ByteArray} {w w' : World} {ts : List (Nat × Nat)} {a0 x er : Nat} (hi : ScanIs s ts a0 0) (h : stripF s ts 0 false [] [] = ⟨[], [], x, er⟩) (hb : Below w.heap.size w w') :
    RStripGood s w (.returned (.tuple #[.slice none 0 0, .slice none 0 0, .int .i64 (x : Nat), .int .i64 (er : Nat)])) w' :=
  ⟨none, none, 0, 0, [], [], x, er, rfl, ⟨ts, a0, 0, hi, by rw [if_pos rfl, h]⟩, World.ownsRow_nil _ _ _ _, World.ownsRow_nil _ _ _ _, hb⟩

def openV (ins : Bool) (bg : Nat) : Value := .int .i64 (if ins then (bg : Int) else -1)

structure RStripRel (s : ByteArray) (ts : List (Nat × Nat)) (B : Nat) (w1 : World) (v u : Value) (k bg : Nat) (ins : Bool) (ws : List (Nat × Nat)) (cs : List (Nat × Nat × Nat)) (wr : World) : Prop where
  eq : stripF s ts 0 false [] [] = stripF s (ts.drop k) bg ins ws cs
  nw : ws.length ≤ k
  nc : cs.length ≤ k
  beg : ins = true → bg + 2 ≤ endTo ts k
  own : wr.ownsRow B 33 2 v ws.length (cellsOf s ws)
  com : wr.ownsRow B 38 4 u cs.length (comCells s cs)
  bel : Below B w1 wr
  siz : B ≤ wr.heap.size

theorem rstrip_start (s : ByteArray) (ts : List (Nat × Nat)) (w1 : World) (c d : Array Value) (hc : c.size = 0) (hd : d.size = 0) :
    RStripRel s ts w1.heap.size w1 (.slice (some ⟨w1.heap.size, 0, none⟩) 0 0) (.slice (some ⟨w1.heap.size + 1, 0, none⟩) 0 0) 0 0 false [] [] ((w1.alloc (.cells c 33)).alloc (.cells d 38)) := by
  refine ⟨rfl, Nat.le_refl _, Nat.le_refl _, (fun h => by cases h), ?_, ?_, ((Below.refl _ _).alloc (Nat.le_refl _) _).alloc (by simp) _, by simp; omega⟩
  · exact (World.ownsRow_made w1 c 0 (Nat.le_refl _) (by simp [maxLen]) (by omega)).alloc _
  · have := World.ownsRow_made (base := w1.heap.size) (e := 38) (size := 4) (w1.alloc (.cells c 33)) d 0 (by simp) (by simp [maxLen]) (by omega)
    rwa [show (w1.alloc (.cells c 33)).heap.size = w1.heap.size + 1 by simp] at this

theorem hid_ways (wd : ByteArray) : (hidB wd = true ∧ hasL wd.data.toList = true ∧ 2 < (wd.size : Int)) ∨ (hidB wd = false ∧ (hasL wd.data.toList = false ∨ (hasL wd.data.toList = true ∧ ¬ 2 < (wd.size : Int)))) := by
  rw [hidB_hasL]
  cases h : hasL wd.data.toList
  · exact .inr ⟨rfl, .inl rfl⟩
  · by_cases h2 : 2 < wd.size
    · exact .inl ⟨by rw [decide_eq_true h2]; rfl, rfl, by omega⟩
    · exact .inr ⟨by rw [decide_eq_false h2]; rfl, .inr ⟨rfl, by omega⟩⟩

set_option maxHeartbeats 3200000 in
set_option maxRecDepth 8000 in
theorem rstrip_any (s : ByteArray) (w : World) : Calls Try.prog 11 #[.string s] w (RStripGood s w) := by
  obtain ⟨i0, hi0, hz0, hz1, hz2⟩ := info_parts infoTok
  obtain ⟨j0, hj0, hy0, hy1, hy2⟩ := info_parts infoRCom
  go_enter Try.func11, Try.ntmps11
  go_wp2_with fail
  refine (rscan_good s _).mono ?_
  rintro e w1 ⟨A1, c1, ts, a, er, rfl, hi, hl, own1, hb1⟩
  have Own1 := Lib.hid own1
  have Hi := Lib.hid hi
  clear own1 hi
  by_cases her : er = 0
  · subst her
    have hsz := size_of Hi.out
    have HO := Lib.hid (ordered_of Hi.out)
    have hs1 : w.heap.size ≤ w1.heap.size := hb1.size
    have HF : Hid (∀ wx, Below w1.heap.size w1 wx → Below w.heap.size w wx) := fun wx hx => hb1.trans (hx.mono hs1)
    go_wp2_with fail
    go_loopw [9, 10, 11, 12] (fun v u o i wr => ∃ (k bg : Nat) (ins : Bool) (ws : List (Nat × Nat)) (cs : List (Nat × Nat × Nat)), k ≤ ts.length ∧ i = .int .i64 k ∧ o = openV ins bg ∧ bg ≤ 40000 ∧ RStripRel s ts w1.heap.size w1 v u k bg ins ws cs wr) (fun _ _ _ i _ => ts.length - (intOf i).toNat)
    case atStart => exact ⟨0, 0, false, [], [], Nat.zero_le _, rfl, rfl, by omega, rstrip_start s ts w1 _ _ rfl rfl⟩
    case round =>
      obtain ⟨k, bg, ins, ws, cs, hk, rfl, rfl, hbg, hrel⟩ := hrel
      have Rel := Lib.hid hrel
      clear hrel
      by_cases hlt : k < ts.length
      · obtain ⟨gb, rfl, hgb, hgs⟩ := own_at Own1.out (by omega)
        have hpin := HO.out.inside _ (List.getElem_mem hlt)
        have hat := endTo_at HO.out.pair k hlt
        have hc0 : (cellsOf s ts)[k * 2]? = some (.string (s.extract ts[k].1 ts[k].2)) := flat2 (fun p => tokV (tk s p)) (fun _ => rfl) ts k 0 hlt (by omega)
        have hc1 : (cellsOf s ts)[k * 2 + 1]? = some (.int .i64 (ts[k].1 : Nat)) := flat2 (fun p => tokV (tk s p)) (fun _ => rfl) ts k 1 hlt (by omega)
        have hes := Lib.hid (endTo_succ ts k hlt)
        have hext := Lib.hid (ext_size s ts[k].1 ts[k].2 (by omega) hpin.2)
        have hbeg := Rel.out.beg
        have hdr := Lib.hid (List.drop_eq_getElem_cons hlt)
        obtain ⟨p, hp⟩ : ∃ p, p = ts[k] := ⟨_, rfl⟩
        rw [← hp] at hc0 hc1 hat hpin hes hext hdr
        obtain ⟨x, y⟩ := p
        simp only at hc0 hc1 hat hpin hes hext
        obtain ⟨hp1, hp2⟩ := hpin
        have hx4 : x ≤ 40000 := by omega
        obtain ⟨wd, hwd⟩ : ∃ wd, wd = s.extract x y := ⟨_, rfl⟩
        rw [← hwd] at hc0 hext
        have hwz : wd.size ≤ 40000 := by rw [hext.out]; omega
        have hB := Rel.out.bel
        have hcell0 := (hB.cell (p := ⟨gb, k * 2, none⟩) hgs).trans ((Own1.out.cellAt (k * 2) (by omega)).trans hc0)
        have hcell1 := (hB.cell (p := ⟨gb, k * 2 + 1, none⟩) hgs).trans ((Own1.out.cellAt (k * 2 + 1) (by omega)).trans hc1)
        have hstep : Hid (stripF s ts 0 false [] [] = if hidB wd || (opB wd && ins) then ⟨[], [], x, 42⟩
            else if clB wd && !ins then ⟨[], [], x, 41⟩
            else if opB wd then stripF s (ts.drop (k + 1)) x true ws cs
            else if clB wd then stripF s (ts.drop (k + 1)) bg false ws (cs ++ [(bg, x, ws.length)])
            else if !ins then stripF s (ts.drop (k + 1)) bg ins (ws ++ [(x, y)]) cs
            else stripF s (ts.drop (k + 1)) bg ins ws cs) := by
          show _ = _
          rw [Rel.out.eq, hdr.out, hwd]
          rfl
        have Hwd := Lib.hid hwd
        clear hc0 hc1 hwd hp hdr hB
        obtain ⟨A2, c2, rfl⟩ := own_slice Rel.out.own
        obtain ⟨A3, c3, rfl⟩ := own_slice Rel.out.com
        have hnw := Rel.out.nw
        have hnc := Rel.out.nc
        have hb2 := HF.out _ Rel.out.bel
        have h63 : ws.length + 1 ≤ maxLen := by simp only [maxLen]; omega
        have hby24 : (ws.length + 1) * 24 ≤ 140737488355328 := by omega
        have g63 : cs.length + 1 ≤ maxLen := by simp only [maxLen]; omega
        have gby40 : (cs.length + 1) * 40 ≤ 140737488355328 := by omega
        have hbs2 : Hid (∀ o, w1.heap.size ≤ (wr.alloc o).heap.size) := fun o => by have := Rel.out.siz; simp; omega
        rcases hid_ways wd with ⟨hh, hL, h2⟩ | ⟨hh, hway⟩
        · -- hides a keyword
          have Heq : Hid (stripF s ts 0 false [] [] = ⟨[], [], x, 42⟩) := by
            have h := hstep.out
            rw [hh] at h
            exact h
          have HL := Lib.hid hL
          clear hh hstep hbeg hL
          go_wp2_with (go_at_call 37; refine (rhas_any wd hwz _).mono ?_; rintro e w' ⟨rfl, rfl⟩; rw [HL.out])
          go_quiet (fail)
          go_wp2
          (try rw [Exit.noGoto_ret])
          (try simp only [Exit.inBlock, Exit.then]); refine bodyPost_ret (results_tmp4 rfl _ _ _) rfl ?_
          exact rstrip_err Hi.out Heq.out (below_drewN hb2 _)
        · have Hway := Lib.hid hway
          clear hway
          cases ho : opB wd
          · cases hc : clB wd
            · cases ins
              · -- a word
                rw [show openV false bg = Value.int .i64 (-1) from rfl]
                have Heq : Hid (stripF s ts 0 false [] [] = stripF s (ts.drop (k + 1)) bg false (ws ++ [(x, y)]) cs) := by
                  have h := hstep.out
                  rw [hh, ho, hc] at h
                  exact h
                have hop : (wd.toList == [36, 40]) = false := ho
                have hcl : (wd.toList == [36, 41]) = false := hc
                clear hh ho hc hstep hbeg
                rcases Hway.out with hL | ⟨hL, h2⟩
                all_goals
                  have HL := Lib.hid hL
                  clear hL Hway
                  go_wp2_with (first
                    | (go_at_call 37; refine (rhas_any wd hwz _).mono ?_; rintro e w' ⟨rfl, rfl⟩; rw [HL.out])
                    | (at_builtin; go_must (refine wpList_append_own _ rfl (.tmp 99) (.tmp 104) 23 rfl w1.heap.size 33 i0 (.agg #[.string ⟨#[]⟩, .int .i64 0]) 2 24 Try.underlying23 hi0 hz0 hz1 hz2 rfl (by decide) _ _ _ rfl (Rel.out.own.alloc _) ⟨wr.heap.size, 0, none⟩ 1 1 [.string wd, .int .i64 (x : Nat)] rfl rfl (fun j u hu => two_new wr _ _ _ hu) (one_pair _ _) h63 hby24 (hbs2.out _) ?_); intro v2 w3 hown3 hgrow3 _))
                  go_light
                  refine ⟨⟨k + 1, bg, false, ws ++ [(x, y)], cs, by omega, by go_num, rfl, hbg, ⟨Heq.out, by simp; omega, by omega, (fun h => by cases h), ?_, ?_, ?_, ?_⟩⟩, by simp [intOf]; omega⟩
                  · rw [← word_snoc, List.length_append, ← Hwd.out]
                    exact hown3
                  · exact (Rel.out.com.alloc _).kept hgrow3 (own_apart Rel.out.com Rel.out.own (by decide))
                  · exact (Rel.out.bel.alloc Rel.out.siz _).grown hgrow3 (hbs2.out _) (fun q hq => (Rel.out.own.lt q hq).1)
                  · have := hgrow3.size
                    have := hbs2.out (.cells #[.string wd, .int .i64 (x : Nat)] 33)
                    omega
              · -- inside of a comment
                rw [show openV true bg = Value.int .i64 (bg : Int) from rfl]
                have Heq : Hid (stripF s ts 0 false [] [] = stripF s (ts.drop (k + 1)) bg true ws cs) := by
                  have h := hstep.out
                  rw [hh, ho, hc] at h
                  exact h
                have hop : (wd.toList == [36, 40]) = false := ho
                have hcl : (wd.toList == [36, 41]) = false := hc
                have hbe := hbeg rfl
                clear hh ho hc hstep hbeg
                rcases Hway.out with hL | ⟨hL, h2⟩
                all_goals
                  have HL := Lib.hid hL
                  clear hL Hway
                  go_wp2_with (go_at_call 37; refine (rhas_any wd hwz _).mono ?_; rintro e w' ⟨rfl, rfl⟩; rw [HL.out])
                  go_light
                  refine ⟨⟨k + 1, bg, true, ws, cs, by omega, by go_num, rfl, hbg, ⟨Heq.out, by omega, by omega, (fun _ => by rw [hes.out]; omega), Rel.out.own, Rel.out.com, Rel.out.bel, Rel.out.siz⟩⟩, by simp [intOf]; omega⟩
            · cases ins
              · -- closes nothing
                rw [show openV false bg = Value.int .i64 (-1) from rfl]
                have Heq : Hid (stripF s ts 0 false [] [] = ⟨[], [], x, 41⟩) := by
                  have h := hstep.out
                  rw [hh, ho, hc] at h
                  exact h
                have hop : (wd.toList == [36, 40]) = false := ho
                have hcl : (wd.toList == [36, 41]) = true := hc
                clear hh ho hc hstep hbeg
                rcases Hway.out with hL | ⟨hL, h2⟩
                all_goals
                  have HL := Lib.hid hL
                  clear hL Hway
                  go_wp2_with (go_at_call 37; refine (rhas_any wd hwz _).mono ?_; rintro e w' ⟨rfl, rfl⟩; rw [HL.out])
                  go_quiet (fail)
                  go_wp2
                  (try rw [Exit.noGoto_ret])
                  (try simp only [Exit.inBlock, Exit.then]); refine bodyPost_ret (results_tmp4 rfl _ _ _) rfl ?_
                  exact rstrip_err Hi.out Heq.out (below_drewN hb2 _)
              · -- a comment ends
                rw [show openV true bg = Value.int .i64 (bg : Int) from rfl]
                have Heq : Hid (stripF s ts 0 false [] [] = stripF s (ts.drop (k + 1)) bg false ws (cs ++ [(bg, x, ws.length)])) := by
                  have h := hstep.out
                  rw [hh, ho, hc] at h
                  exact h
                have hop : (wd.toList == [36, 40]) = false := ho
                have hcl : (wd.toList == [36, 41]) = true := hc
                have hbe := hbeg rfl
                have hbx : bg + 2 ≤ x := by omega
                have hxs : x ≤ s.size := by omega
                clear hh ho hc hstep hbeg
                rcases Hway.out with hL | ⟨hL, h2⟩
                all_goals
                  have HL := Lib.hid hL
                  clear hL Hway
                  go_wp2_with (first
                    | (go_at_call 37; refine (rhas_any wd hwz _).mono ?_; rintro e w' ⟨rfl, rfl⟩; rw [HL.out])
                    | (at_builtin; go_must (refine wpList_append_own _ rfl (.tmp 79) (.tmp 94) 28 rfl w1.heap.size 38 j0 (.agg #[.string ⟨#[]⟩, .int .i64 0, .int .i64 0, .int .i64 0]) 4 40 Try.underlying28 hj0 hy0 hy1 hy2 rfl (by decide) _ _ _ rfl (Rel.out.com.alloc _) ⟨wr.heap.size, 0, none⟩ 1 1 (comV s (bg, x, ws.length)) rfl rfl (fun j u hu => four_new wr _ _ _ _ _ hu) (one_four _ _ _ _) g63 gby40 (hbs2.out _) ?_); intro v2 w3 hown3 hgrow3 _))
                  go_light
                  refine ⟨⟨k + 1, bg, false, ws, cs ++ [(bg, x, ws.length)], by omega, by go_num, rfl, hbg, ⟨Heq.out, by omega, by simp; omega, (fun h => by cases h), ?_, ?_, ?_, ?_⟩⟩, by simp [intOf]; omega⟩
                  · exact (Rel.out.own.alloc _).kept hgrow3 (own_apart Rel.out.own Rel.out.com (by decide))
                  · rw [← com_snoc, List.length_append]
                    exact hown3
                  · exact (Rel.out.bel.alloc Rel.out.siz _).grown hgrow3 (hbs2.out _) (fun q hq => (Rel.out.com.lt q hq).1)
                  · have := hgrow3.size
                    have := Rel.out.siz
                    have hz := hbs2.out default
                    simp at *
                    omega
          · have hc := op_cl ho
            cases ins
            · -- a comment begins
              rw [show openV false bg = Value.int .i64 (-1) from rfl]
              have Heq : Hid (stripF s ts 0 false [] [] = stripF s (ts.drop (k + 1)) x true ws cs) := by
                have h := hstep.out
                rw [hh, ho, hc] at h
                exact h
              have hop : (wd.toList == [36, 40]) = true := ho
              have hcl : (wd.toList == [36, 41]) = false := hc
              have hsz2 := op_size ho
              have hy2x : x + 2 ≤ y := by rw [hext.out] at hsz2; omega
              clear hh ho hc hstep hbeg hsz2
              rcases Hway.out with hL | ⟨hL, h2⟩
              all_goals
                have HL := Lib.hid hL
                clear hL Hway
                go_wp2_with (go_at_call 37; refine (rhas_any wd hwz _).mono ?_; rintro e w' ⟨rfl, rfl⟩; rw [HL.out])
                go_light
                refine ⟨⟨k + 1, x, true, ws, cs, by omega, by go_num, rfl, hx4, ⟨Heq.out, by omega, by omega, (fun _ => by rw [hes.out]; omega), Rel.out.own, Rel.out.com, Rel.out.bel, Rel.out.siz⟩⟩, by simp [intOf]; omega⟩
            · -- opens within
              rw [show openV true bg = Value.int .i64 (bg : Int) from rfl]
              have Heq : Hid (stripF s ts 0 false [] [] = ⟨[], [], x, 42⟩) := by
                have h := hstep.out
                rw [hh, ho, hc] at h
                exact h
              have hop : (wd.toList == [36, 40]) = true := ho
              have hcl : (wd.toList == [36, 41]) = false := hc
              clear hh ho hc hstep hbeg
              rcases Hway.out with hL | ⟨hL, h2⟩
              all_goals
                have HL := Lib.hid hL
                clear hL Hway
                go_wp2_with (go_at_call 37; refine (rhas_any wd hwz _).mono ?_; rintro e w' ⟨rfl, rfl⟩; rw [HL.out])
                go_quiet (fail)
                go_wp2
                (try rw [Exit.noGoto_ret])
                (try simp only [Exit.inBlock, Exit.then]); refine bodyPost_ret (results_tmp4 rfl _ _ _) rfl ?_
                exact rstrip_err Hi.out Heq.out (below_drewN hb2 _)
      · obtain rfl : k = ts.length := by omega
        have hb2 := HF.out _ Rel.out.bel
        have hend := Rel.out.eq
        rw [List.drop_eq_nil_of_le (Nat.le_refl _)] at hend
        obtain ⟨A2, c2, rfl⟩ := own_slice Rel.out.own
        obtain ⟨A3, c3, rfl⟩ := own_slice Rel.out.com
        cases ins
        · rw [show openV false bg = Value.int .i64 (-1) from rfl]
          have Heq : Hid (stripF s ts 0 false [] [] = ⟨ws, cs, 0, 0⟩) := hend
          clear hend
          go_wp2
          (try simp only [Exit.inBlock, Exit.then]); refine bodyPost_ret (results_tmp4 rfl _ _ _) rfl ?_
          exact ⟨A2, A3, c2, c3, ws, cs, 0, 0, rfl, ⟨ts, a, 0, Hi.out, by rw [if_pos rfl, Heq.out]⟩, own_base Rel.out.own hs1, own_base Rel.out.com hs1, hb2⟩
        · rw [show openV true bg = Value.int .i64 (bg : Int) from rfl]
          have Heq : Hid (stripF s ts 0 false [] [] = ⟨[], [], bg, 40⟩) := hend
          clear hend
          go_wp2
          (try simp only [Exit.inBlock, Exit.then]); refine bodyPost_ret (results_tmp4 rfl _ _ _) rfl ?_
          exact rstrip_err Hi.out Heq.out hb2
  · have hn : ((er : Int) != 0) = true := by rw [bne_iff_ne]; omega
    go_wp2
    (try simp only [Exit.inBlock, Exit.then]); refine bodyPost_ret (results_tmp4 rfl _ _ _) rfl ?_
    exact ⟨none, none, 0, 0, [], [], a, er, rfl, ⟨ts, a, er, Hi.out, by rw [if_neg her]⟩, World.ownsRow_nil _ _ _ _, World.ownsRow_nil _ _ _ _, hb1⟩
end Go.Proofs.Ytmekdghnkkephaa.Tok
