/- Contract of source.Strip. -/
import Derived.Test.YtmekdghnkkephaaSearch
import Derived.Test.YtmekdghnkkephaaGaps
namespace Go.Proofs.Ytmekdghnkkephaa.Tok
open Go.RowKit Go.Proofs.Ytmekdghnkkephaa

/-- The package variable that the library's search reads holds some number. -/
def HasMax (w : World) : Prop := ∃ m, w.cell? ⟨0, 0, none⟩ = some (.int .i64 m)
theorem HasMax.lt {w : World} (h : HasMax w) : 0 < w.heap.size := by
  obtain ⟨m, hm⟩ := h
  exact block_lt_of_cell hm
theorem HasMax.below {w w' : World} {B : Nat} (h : HasMax w) (hB : 0 < B) (hb : Below B w w') : HasMax w' := by
  obtain ⟨m, hm⟩ := h
  exact ⟨m, (hb.cell (p := ⟨0, 0, none⟩) hB).trans hm⟩

def hidB (s : ByteArray) : Bool := decide (2 < s.size) && (Lib.contains s.data.toList [36, 40] || Lib.contains s.data.toList [36, 41])
theorem hides_any (s : ByteArray) (hs : s.size ≤ 40000) (w : World) (hm : HasMax w) : Calls Try.prog 35 #[.string s] w fun e w' => e = .returned (.bool (hidB s)) ∧ w = w' := by
  obtain ⟨m, hm⟩ := hm
  have hs' : s.size < 4294967281 := by omega
  by_cases h2 : 2 < (s.size : Int)
  · have hd : decide (2 < s.size) = true := by rw [decide_eq_true_iff]; omega
    cases h3 : Lib.contains s.data.toList [36, 40]
    · have Hf := Lib.hid (show hidB s = Lib.contains s.data.toList [36, 41] by unfold hidB; rw [hd, h3]; rfl)
      have H3 := Lib.hid h3
      clear hd h3
      go_enter Try.func35, Try.ntmps35
      go_wp2_with fail
      refine (Try.strings_Contains s _ m _ hs' hm).mono ?_
      rintro e w' ⟨rfl, rfl⟩
      rw [show (⟨#[36, 40]⟩ : ByteArray).data.toList = [36, 40] from rfl, H3.out]
      go_wp2_with fail
      refine (Try.strings_Contains s _ m _ hs' hm).mono ?_
      rintro e w' ⟨rfl, rfl⟩
      go_wp2
      go_ret
      exact ⟨by rw [Hf.out]; rfl, rfl⟩
    · have Hf := Lib.hid (show hidB s = true by unfold hidB; rw [hd, h3]; rfl)
      have H3 := Lib.hid h3
      clear hd h3
      go_enter Try.func35, Try.ntmps35
      go_wp2_with fail
      refine (Try.strings_Contains s _ m _ hs' hm).mono ?_
      rintro e w' ⟨rfl, rfl⟩
      rw [show (⟨#[36, 40]⟩ : ByteArray).data.toList = [36, 40] from rfl, H3.out]
      go_wp2
      go_ret
      exact ⟨by rw [Hf.out]; rfl, rfl⟩
  · have Hf := Lib.hid (show hidB s = false by unfold hidB; rw [decide_eq_false (by omega)]; rfl)
    go_enter Try.func35, Try.ntmps35
    go_wp2
    go_ret
    exact ⟨by rw [Hf.out]; rfl, rfl⟩

def opB (t : ByteArray) : Bool := t.toList == [36, 40]
def clB (t : ByteArray) : Bool := t.toList == [36, 41]

/-- What Strip returns: the words, the comments (begin, end, words before), the offset, the error. -/
structure SR where
  ws : List (Nat × Nat)
  cs : List (Nat × Nat × Nat)
  at_ : Nat
  er : Nat

def stripF (s : ByteArray) : List (Nat × Nat) → Nat → Bool → List (Nat × Nat) → List (Nat × Nat × Nat) → SR
  | [], bg, ins, ws, cs => if ins then ⟨[], [], bg, 40⟩ else ⟨ws, cs, 0, 0⟩
  | p :: r, bg, ins, ws, cs =>
    if hidB (s.extract p.1 p.2) || (opB (s.extract p.1 p.2) && ins) then ⟨[], [], p.1, 42⟩
    else if clB (s.extract p.1 p.2) && !ins then ⟨[], [], p.1, 41⟩
    else if opB (s.extract p.1 p.2) then stripF s r p.1 true ws cs
    else if clB (s.extract p.1 p.2) then stripF s r bg false ws (cs ++ [(bg, p.1, ws.length)])
    else if !ins then stripF s r bg ins (ws ++ [p]) cs
    else stripF s r bg ins ws cs

/-- A comment's four cells. -/
def comV (s : ByteArray) (c : Nat × Nat × Nat) : List Value := [.string (s.extract (c.1 + 2) c.2.1), .int .i64 0, .int .i64 (c.1 : Nat), .int .i64 (c.2.2 : Nat)]
def comCells (s : ByteArray) (cs : List (Nat × Nat × Nat)) : List Value := cs.flatMap (comV s)
theorem infoCom : (Try.prog.info? 91).map (fun i => (i.zero, i.size, i.bytes)) = some (some (.agg #[.string ⟨#[]⟩, .int .i64 0, .int .i64 0, .int .i64 0]), 4, 40) := by kernel_rfl

theorem own_apart {w : World} {b b' : Nat} {e e' : TypeId} {z z' n n' : Nat} {v v' : Value} {xs xs' : List Value} (h : w.ownsRow b e z v n xs) (h' : w.ownsRow b' e' z' v' n' xs') (hne : e ≠ e') : v.ownBlock = none ∨ v.ownBlock ≠ v'.ownBlock := by
  rcases h.2 with ⟨rfl, _⟩ | ⟨g, cap, cur, rfl, _, h1, _⟩
  · exact .inl rfl
  · right
    intro he
    rcases h'.2 with ⟨rfl, _⟩ | ⟨g', cap', cur', rfl, _, h1', _⟩
    · cases he
    · injection he with he
      subst he
      rw [h1] at h1'
      injection h1' with h1'
      injection h1' with _ h2
      exact hne h2

/-- What Strip has made of the text. -/
def StripGood (s : ByteArray) (w : World) (e : Ending) (w' : World) : Prop :=
  ∃ (A A' : Option Addr) (c c' : Nat) (ws : List (Nat × Nat)) (cs : List (Nat × Nat × Nat)) (a er : Nat),
    e = .returned (.tuple #[.slice A ws.length c, .slice A' cs.length c', .int .i64 (a : Nat), .int .i64 (er : Nat)]) ∧
    (∃ ts a0 er0, ScanIs s ts a0 er0 ∧ (⟨ws, cs, a, er⟩ : SR) = if er0 = 0 then stripF s ts 0 false [] [] else ⟨[], [], a0, er0⟩) ∧
    w'.ownsRow w.heap.size 33 2 (.slice A ws.length c) ws.length (cellsOf s ws) ∧
    w'.ownsRow w.heap.size 91 4 (.slice A' cs.length c') cs.length (comCells s cs) ∧ Below w.heap.size w w'

theorem strip_err {s : ByteArray} {w w' : World} {ts : List (Nat × Nat)} {a0 x er : Nat} (hi : ScanIs s ts a0 0) (h : stripF s ts 0 false [] [] = ⟨[], [], x, er⟩) (hb : Below w.heap.size w w') :
    StripGood s w (.returned (.tuple #[.slice none 0 0, .slice none 0 0, .int .i64 (x : Nat), .int .i64 (er : Nat)])) w' :=
  ⟨none, none, 0, 0, [], [], x, er, rfl, ⟨ts, a0, 0, hi, by rw [if_pos rfl, h]⟩, World.ownsRow_nil _ _ _ _, World.ownsRow_nil _ _ _ _, hb⟩

theorem results_tmp4 {fn : Func} {t u v x : Tmp} (h : fn.results = #[.tmp t, .tmp u, .tmp v, .tmp x]) (tmps : Array Value) (P : Program) (w : World) :
    (results fn tmps).run P w = .ok (.tuple #[tmps.getD t undef, tmps.getD u undef, tmps.getD v undef, tmps.getD x undef]) w := by
  simp [results, h]

theorem four_new (w : World) (t : TypeId) (a b c d : Value) {j : Nat} {u : Value} (h : [a, b, c, d][j]? = some u) : (w.alloc (.cells #[a, b, c, d] t)).cell? ((⟨w.heap.size, 0, none⟩ : Addr).add j) = some u := by
  rw [add_zero_block, cell_of_row _ _ _ _ _ _ (heap_alloc_new w _)]
  simpa using h
theorem one_four (a : ByteArray) (b c d : Int) : ∀ u ∈ [Value.string a, Value.int .i64 b, Value.int .i64 c, Value.int .i64 d], u.oneCell' = true := by
  intro u hu
  simp only [List.mem_cons, List.not_mem_nil, or_false] at hu
  rcases hu with rfl | rfl | rfl | rfl <;> rfl
theorem com_snoc (s : ByteArray) (cs : List (Nat × Nat × Nat)) (c : Nat × Nat × Nat) : comCells s cs ++ comV s c = comCells s (cs ++ [c]) := by
  unfold comCells
  rw [List.flatMap_append]
  simp
theorem word_snoc (s : ByteArray) (ws : List (Nat × Nat)) (p : Nat × Nat) : cellsOf s ws ++ [Value.string (s.extract p.1 p.2), Value.int .i64 (p.1 : Nat)] = cellsOf s (ws ++ [p]) := by
  unfold cellsOf
  exact flat_snoc s ws p
theorem op_cl {t : ByteArray} (h : opB t = true) : clB t = false := by
  unfold opB at h
  unfold clB
  rw [beq_iff_eq] at h
  rw [h]
  rfl
theorem op_size {t : ByteArray} (h : opB t = true) : t.size = 2 := by
  unfold opB at h
  rw [beq_iff_eq, ByteArray.toList_eq] at h
  have h2 : t.data.toList.length = t.size := Array.length_toList
  rw [h] at h2
  exact h2.symm

structure StripRel (s : ByteArray) (ts : List (Nat × Nat)) (B : Nat) (w1 : World) (v u : Value) (k bg : Nat) (ins : Bool) (ws : List (Nat × Nat)) (cs : List (Nat × Nat × Nat)) (wr : World) : Prop where
  eq : stripF s ts 0 false [] [] = stripF s (ts.drop k) bg ins ws cs
  nw : ws.length ≤ k
  nc : cs.length ≤ k
  beg : ins = true → bg + 2 ≤ endTo ts k
  own : wr.ownsRow B 33 2 v ws.length (cellsOf s ws)
  com : wr.ownsRow B 91 4 u cs.length (comCells s cs)
  bel : Below B w1 wr
  siz : B ≤ wr.heap.size

theorem strip_at {s wd : ByteArray} {ts : List (Nat × Nat)} {B x nq k bg : Nat} {w1 wr W2 : World} {v u : Value} {ins : Bool} {ws : List (Nat × Nat)} {cs : List (Nat × Nat × Nat)} (h : StripRel s ts B w1 v u k bg ins ws cs wr)
    (hW : (wr.alloc (.cells #[.string wd, .int .i64 (x : Nat)] 33)).drewN nq = W2) :
    StripRel s ts B w1 v u k bg ins ws cs W2 ∧ W2.cell? ⟨wr.heap.size, 0, none⟩ = some (.string wd) ∧ W2.cell? ⟨wr.heap.size, 1, none⟩ = some (.int .i64 (x : Nat)) ∧ wr.heap.size < W2.heap.size := by
  subst hW
  have hn0 := two_new wr 33 (.string wd) (.int .i64 (x : Nat)) (j := 0) (u := .string wd) rfl
  have hn1 := two_new wr 33 (.string wd) (.int .i64 (x : Nat)) (j := 1) (u := .int .i64 (x : Nat)) rfl
  refine ⟨⟨h.eq, h.nw, h.nc, h.beg, h.own.alloc _, h.com.alloc _, below_drewN (h.bel.alloc h.siz _) nq, ?_⟩, ?_, ?_, ?_⟩
  · show B ≤ (wr.alloc _).heap.size
    have := h.siz
    simp
    omega
  · rwa [add_zero_block] at hn0
  · rwa [add_zero_block] at hn1
  · show wr.heap.size < (wr.alloc _).heap.size
    simp

set_option maxHeartbeats 3200000 in
set_option maxRecDepth 4000 in
theorem strip_any (s : ByteArray) (w : World) (hm : HasMax w) : Calls Try.prog 10 #[.string s] w (StripGood s w) := by
  obtain ⟨i0, hi0, hz0, hz1, hz2⟩ := info_parts infoTok
  obtain ⟨j0, hj0, hy0, hy1, hy2⟩ := info_parts infoCom
  go_enter Try.func10, Try.ntmps10
  go_wp2_with fail
  refine (scan_good s _).mono ?_
  rintro e w1 ⟨A1, c1, ts, a, er, rfl, hi, hl, own1, hb1⟩
  have Own1 := Lib.hid own1
  have Hi := Lib.hid hi
  clear own1 hi
  by_cases her : er = 0
  · subst her
    have hsz := size_of Hi.out
    have HO := Lib.hid (ordered_of Hi.out)
    have hs1 : w.heap.size ≤ w1.heap.size := hb1.size
    have hmx : HasMax w1 := hm.below hm.lt hb1
    have hw1 : 0 < w1.heap.size := by have := hm.lt; omega
    have Hmx := Lib.hid hmx
    clear hmx hm
    have HF : Hid (∀ wx, Below w1.heap.size w1 wx → Below w.heap.size w wx) := fun wx hx => hb1.trans (hx.mono hs1)
    go_wp2_with fail
    go_loopw [9, 10, 11, 12, 29] (fun v u bgv inv i wr => ∃ (k bg : Nat) (ins : Bool) (ws : List (Nat × Nat)) (cs : List (Nat × Nat × Nat)), k ≤ ts.length ∧ i = .int .i64 k ∧ bgv = .int .i64 bg ∧ inv = .bool ins ∧ bg ≤ 40000 ∧ StripRel s ts w1.heap.size w1 v u k bg ins ws cs wr) (fun _ _ _ _ i _ => ts.length - (intOf i).toNat)
    case atStart => exact ⟨0, 0, false, [], [], Nat.zero_le _, rfl, rfl, rfl, by omega, ⟨rfl, Nat.le_refl _, Nat.le_refl _, (fun h => by cases h), World.ownsRow_nil _ _ _ _, World.ownsRow_nil _ _ _ _, Below.refl _ _, Nat.le_refl _⟩⟩
    case round =>
      obtain ⟨k, bg, ins, ws, cs, hk, rfl, rfl, rfl, hbg, hrel⟩ := hrel
      have Rel := Lib.hid hrel
      clear hrel
      by_cases hlt : k < ts.length
      · obtain ⟨gb, rfl, hgb, hgs⟩ := own_at Own1.out (by omega)
        have hpin := HO.out.inside _ (List.getElem_mem hlt)
        have hat := endTo_at HO.out.pair k hlt
        have hc0 : (cellsOf s ts)[k * 2]? = some (.string (s.extract ts[k].1 ts[k].2)) := flat2 (fun p => tokV (tk s p)) (fun _ => rfl) ts k 0 hlt (by omega)
        have hc1 : (cellsOf s ts)[k * 2 + 1]? = some (.int .i64 (ts[k].1 : Nat)) := flat2 (fun p => tokV (tk s p)) (fun _ => rfl) ts k 1 hlt (by omega)
        have hes := Lib.hid (endTo_succ ts k hlt)
        have hext := Lib.hid (ext_size s ts[k].1 ts[k].2 (by omega) hpin.2)
        have hbeg := Rel.out.beg
        have hdr := Lib.hid (List.drop_eq_getElem_cons hlt)
        obtain ⟨p, hp⟩ : ∃ p, p = ts[k] := ⟨_, rfl⟩
        rw [← hp] at hc0 hc1 hat hpin hes hext hdr
        obtain ⟨x, y⟩ := p
        simp only at hc0 hc1 hat hpin hes hext
        obtain ⟨hp1, hp2⟩ := hpin
        have hx4 : x ≤ 40000 := by omega
        obtain ⟨wd, hwd⟩ : ∃ wd, wd = s.extract x y := ⟨_, rfl⟩
        rw [← hwd] at hc0 hext
        have hwz : wd.size ≤ 40000 := by rw [hext.out]; omega
        have hB := Rel.out.bel
        have hcell0 := (hB.cell (p := ⟨gb, k * 2, none⟩) hgs).trans ((Own1.out.cellAt (k * 2) (by omega)).trans hc0)
        have hcell1 := (hB.cell (p := ⟨gb, k * 2 + 1, none⟩) hgs).trans ((Own1.out.cellAt (k * 2 + 1) (by omega)).trans hc1)
        have hstep : Hid (stripF s ts 0 false [] [] = if hidB wd || (opB wd && ins) then ⟨[], [], x, 42⟩
            else if clB wd && !ins then ⟨[], [], x, 41⟩
            else if opB wd then stripF s (ts.drop (k + 1)) x true ws cs
            else if clB wd then stripF s (ts.drop (k + 1)) bg false ws (cs ++ [(bg, x, ws.length)])
            else if !ins then stripF s (ts.drop (k + 1)) bg ins (ws ++ [(x, y)]) cs
            else stripF s (ts.drop (k + 1)) bg ins ws cs) := by
          show _ = _
          rw [Rel.out.eq, hdr.out, hwd]
          rfl
        have Hwd := Lib.hid hwd
        have Hp := Lib.hid hp
        clear hc0 hc1 hwd hp hdr hB
        obtain ⟨A2, c2, rfl⟩ := own_slice Rel.out.own
        obtain ⟨A3, c3, rfl⟩ := own_slice Rel.out.com
        have hnw := Rel.out.nw
        have hnc := Rel.out.nc
        have h63 : ws.length + 1 ≤ maxLen := by simp only [maxLen]; omega
        have hby24 : (ws.length + 1) * 24 ≤ 140737488355328 := by omega
        have g63 : cs.length + 1 ≤ maxLen := by simp only [maxLen]; omega
        have gby40 : (cs.length + 1) * 40 ≤ 140737488355328 := by omega
        cases hh : hidB wd
        · cases ho : opB wd
          · cases hc : clB wd
            · cases ins
              · -- a word
                have Heq : Hid (stripF s ts 0 false [] [] = stripF s (ts.drop (k + 1)) bg false (ws ++ [(x, y)]) cs) := by
                  have h := hstep.out
                  rw [hh, ho, hc] at h
                  exact h
                have hop : (wd.toList == [36, 40]) = false := ho
                have hcl : (wd.toList == [36, 41]) = false := hc
                have Hh := Lib.hid hh
                clear hh ho hc hstep hbeg
                go_wp2
                go_quiet (fail)
                go_wp2_with fail
                generalize hW2 : World.drewN _ _ = W2
                obtain ⟨rel2, ht0, ht1, hq2⟩ := strip_at Rel.out hW2
                have Rel2 := Lib.hid rel2
                clear hW2 rel2
                have hb2 := HF.out _ Rel2.out.bel
                refine (hides_any wd hwz _ (Hmx.out.below hw1 Rel2.out.bel)).mono ?_
                rintro e w' ⟨rfl, rfl⟩
                rw [Hh.out]
                have hbs2 : ∀ o, w1.heap.size ≤ (W2.alloc o).heap.size := fun o => by have := Rel2.out.siz; simp; omega
                go_wp2_with (at_builtin; go_must (refine wpList_append_own _ rfl (.tmp 80) (.tmp 82) 23 rfl w1.heap.size 33 i0 (.agg #[.string ⟨#[]⟩, .int .i64 0]) 2 24 Try.underlying23 hi0 hz0 hz1 hz2 rfl (by decide) _ _ _ rfl (Rel2.out.own.alloc _) ⟨W2.heap.size, 0, none⟩ 1 1 [.string wd, .int .i64 (x : Nat)] rfl rfl (fun j u hu => two_new W2 _ _ _ hu) (one_pair _ _) h63 hby24 (hbs2 _) ?_); intro v2 w3 hown3 hgrow3 _)
                go_light
                refine ⟨⟨k + 1, bg, false, ws ++ [(x, y)], cs, by omega, by go_num, rfl, rfl, hbg, ⟨Heq.out, by simp; omega, by omega, (fun h => by cases h), ?_, ?_, ?_, ?_⟩⟩, by simp [intOf]; omega⟩
                · rw [← word_snoc, List.length_append, ← Hwd.out]
                  exact hown3
                · exact (Rel2.out.com.alloc _).kept hgrow3 (own_apart Rel2.out.com Rel2.out.own (by decide))
                · exact (Rel2.out.bel.alloc Rel2.out.siz _).grown hgrow3 (hbs2 _) (fun q hq => (Rel2.out.own.lt q hq).1)
                · have := hgrow3.size
                  have := hbs2 (.cells #[.string wd, .int .i64 (x : Nat)] 33)
                  omega
              · -- inside of a comment
                have Heq : Hid (stripF s ts 0 false [] [] = stripF s (ts.drop (k + 1)) bg true ws cs) := by
                  have h := hstep.out
                  rw [hh, ho, hc] at h
                  exact h
                have hop : (wd.toList == [36, 40]) = false := ho
                have hcl : (wd.toList == [36, 41]) = false := hc
                have Hh := Lib.hid hh
                have hbe := hbeg rfl
                clear hh ho hc hstep hbeg
                go_wp2
                go_quiet (fail)
                go_wp2_with fail
                generalize hW2 : World.drewN _ _ = W2
                obtain ⟨rel2, ht0, ht1, hq2⟩ := strip_at Rel.out hW2
                have Rel2 := Lib.hid rel2
                clear hW2 rel2
                have hb2 := HF.out _ Rel2.out.bel
                refine (hides_any wd hwz _ (Hmx.out.below hw1 Rel2.out.bel)).mono ?_
                rintro e w' ⟨rfl, rfl⟩
                rw [Hh.out]
                go_wp2
                go_light
                refine ⟨⟨k + 1, bg, true, ws, cs, by omega, by go_num, rfl, rfl, hbg, ⟨Heq.out, by omega, by omega, (fun _ => by rw [hes.out]; omega), Rel2.out.own, Rel2.out.com, Rel2.out.bel, Rel2.out.siz⟩⟩, by simp [intOf]; omega⟩
            · cases ins
              · -- closes nothing
                have Heq : Hid (stripF s ts 0 false [] [] = ⟨[], [], x, 41⟩) := by
                  have h := hstep.out
                  rw [hh, ho, hc] at h
                  exact h
                have hop : (wd.toList == [36, 40]) = false := ho
                have hcl : (wd.toList == [36, 41]) = true := hc
                have Hh := Lib.hid hh
                clear hh ho hc hstep hbeg
                go_wp2
                go_quiet (fail)
                go_wp2_with fail
                generalize hW2 : World.drewN _ _ = W2
                obtain ⟨rel2, ht0, ht1, hq2⟩ := strip_at Rel.out hW2
                have Rel2 := Lib.hid rel2
                clear hW2 rel2
                have hb2 := HF.out _ Rel2.out.bel
                refine (hides_any wd hwz _ (Hmx.out.below hw1 Rel2.out.bel)).mono ?_
                rintro e w' ⟨rfl, rfl⟩
                rw [Hh.out]
                go_wp2
                go_quiet (fail)
                go_wp2
                (try rw [Exit.noGoto_ret])
                (try simp only [Exit.inBlock, Exit.then]); refine bodyPost_ret (results_tmp4 rfl _ _ _) rfl ?_
                exact strip_err Hi.out Heq.out (below_drewN hb2 _)
              · -- a comment ends
                have Heq : Hid (stripF s ts 0 false [] [] = stripF s (ts.drop (k + 1)) bg false ws (cs ++ [(bg, x, ws.length)])) := by
                  have h := hstep.out
                  rw [hh, ho, hc] at h
                  exact h
                have hop : (wd.toList == [36, 40]) = false := ho
                have hcl : (wd.toList == [36, 41]) = true := hc
                have Hh := Lib.hid hh
                have hbe := hbeg rfl
                have hbx : bg + 2 ≤ x := by omega
                have hxs : x ≤ s.size := by omega
                clear hh ho hc hstep hbeg
                go_wp2
                go_quiet (fail)
                go_wp2_with fail
                generalize hW2 : World.drewN _ _ = W2
                obtain ⟨rel2, ht0, ht1, hq2⟩ := strip_at Rel.out hW2
                have Rel2 := Lib.hid rel2
                clear hW2 rel2
                have hb2 := HF.out _ Rel2.out.bel
                refine (hides_any wd hwz _ (Hmx.out.below hw1 Rel2.out.bel)).mono ?_
                rintro e w' ⟨rfl, rfl⟩
                rw [Hh.out]
                have hbs2 : ∀ o, w1.heap.size ≤ (W2.alloc o).heap.size := fun o => by have := Rel2.out.siz; simp; omega
                go_wp2_with (at_builtin; go_must (refine wpList_append_own _ rfl (.tmp 63) (.tmp 75) 24 rfl w1.heap.size 91 j0 (.agg #[.string ⟨#[]⟩, .int .i64 0, .int .i64 0, .int .i64 0]) 4 40 Try.underlying24 hj0 hy0 hy1 hy2 rfl (by decide) _ _ _ rfl (Rel2.out.com.alloc _) ⟨W2.heap.size, 0, none⟩ 1 1 (comV s (bg, x, ws.length)) rfl rfl (fun j u hu => four_new W2 _ _ _ _ _ hu) (one_four _ _ _ _) g63 gby40 (hbs2 _) ?_); intro v2 w3 hown3 hgrow3 _)
                go_light
                refine ⟨⟨k + 1, bg, false, ws, cs ++ [(bg, x, ws.length)], by omega, by go_num, rfl, rfl, hbg, ⟨Heq.out, by omega, by simp; omega, (fun h => by cases h), ?_, ?_, ?_, ?_⟩⟩, by simp [intOf]; omega⟩
                · exact (Rel2.out.own.alloc _).kept hgrow3 (own_apart Rel2.out.own Rel2.out.com (by decide))
                · rw [← com_snoc, List.length_append]
                  exact hown3
                · exact (Rel2.out.bel.alloc Rel2.out.siz _).grown hgrow3 (hbs2 _) (fun q hq => (Rel2.out.com.lt q hq).1)
                · have := hgrow3.size
                  have := Rel2.out.siz
                  have hz := hbs2 default
                  simp at *
                  omega
          · have hc := op_cl ho
            cases ins
            · -- a comment begins
              have Heq : Hid (stripF s ts 0 false [] [] = stripF s (ts.drop (k + 1)) x true ws cs) := by
                have h := hstep.out
                rw [hh, ho, hc] at h
                exact h
              have hop : (wd.toList == [36, 40]) = true := ho
              have hcl : (wd.toList == [36, 41]) = false := hc
              have Hh := Lib.hid hh
              have hsz2 := op_size ho
              have hy2x : x + 2 ≤ y := by rw [hext.out] at hsz2; omega
              clear hh ho hc hstep hbeg hsz2
              go_wp2
              go_quiet (fail)
              go_wp2_with fail
              generalize hW2 : World.drewN _ _ = W2
              obtain ⟨rel2, ht0, ht1, hq2⟩ := strip_at Rel.out hW2
              have Rel2 := Lib.hid rel2
              clear hW2 rel2
              have hb2 := HF.out _ Rel2.out.bel
              refine (hides_any wd hwz _ (Hmx.out.below hw1 Rel2.out.bel)).mono ?_
              rintro e w' ⟨rfl, rfl⟩
              rw [Hh.out]
              go_wp2
              go_light
              refine ⟨⟨k + 1, x, true, ws, cs, by omega, by go_num, rfl, rfl, hx4, ⟨Heq.out, by omega, by omega, (fun _ => by rw [hes.out]; omega), Rel2.out.own, Rel2.out.com, Rel2.out.bel, Rel2.out.siz⟩⟩, by simp [intOf]; omega⟩
            · -- opens within
              have Heq : Hid (stripF s ts 0 false [] [] = ⟨[], [], x, 42⟩) := by
                have h := hstep.out
                rw [hh, ho, hc] at h
                exact h
              have hop : (wd.toList == [36, 40]) = true := ho
              have hcl : (wd.toList == [36, 41]) = false := hc
              have Hh := Lib.hid hh
              clear hh ho hc hstep hbeg
              go_wp2
              go_quiet (fail)
              go_wp2_with fail
              generalize hW2 : World.drewN _ _ = W2
              obtain ⟨rel2, ht0, ht1, hq2⟩ := strip_at Rel.out hW2
              have Rel2 := Lib.hid rel2
              clear hW2 rel2
              have hb2 := HF.out _ Rel2.out.bel
              refine (hides_any wd hwz _ (Hmx.out.below hw1 Rel2.out.bel)).mono ?_
              rintro e w' ⟨rfl, rfl⟩
              rw [Hh.out]
              go_wp2
              go_quiet (fail)
              go_wp2
              (try rw [Exit.noGoto_ret])
              (try simp only [Exit.inBlock, Exit.then]); refine bodyPost_ret (results_tmp4 rfl _ _ _) rfl ?_
              exact strip_err Hi.out Heq.out (below_drewN hb2 _)
        · -- hides a keyword
          have Heq : Hid (stripF s ts 0 false [] [] = ⟨[], [], x, 42⟩) := by
            have h := hstep.out
            rw [hh] at h
            exact h
          have Hh := Lib.hid hh
          clear hh hstep hbeg
          cases hop : (wd.toList == [36, 40]) <;> cases hcl : (wd.toList == [36, 41])
          all_goals
            go_wp2
            go_quiet (fail)
            go_wp2_with fail
            generalize hW2 : World.drewN _ _ = W2
            obtain ⟨rel2, ht0, ht1, hq2⟩ := strip_at Rel.out hW2
            have Rel2 := Lib.hid rel2
            clear hW2 rel2
            have hb2 := HF.out _ Rel2.out.bel
            refine (hides_any wd hwz _ (Hmx.out.below hw1 Rel2.out.bel)).mono ?_
            rintro e w' ⟨rfl, rfl⟩
            rw [Hh.out]
            go_wp2
            go_quiet (fail)
            go_wp2
            (try rw [Exit.noGoto_ret])
            (try simp only [Exit.inBlock, Exit.then]); refine bodyPost_ret (results_tmp4 rfl _ _ _) rfl ?_
            exact strip_err Hi.out Heq.out (below_drewN hb2 _)
      · obtain rfl : k = ts.length := by omega
        have hb2 := HF.out _ Rel.out.bel
        have hend := Rel.out.eq
        rw [List.drop_eq_nil_of_le (Nat.le_refl _)] at hend
        obtain ⟨A2, c2, rfl⟩ := own_slice Rel.out.own
        obtain ⟨A3, c3, rfl⟩ := own_slice Rel.out.com
        cases ins
        · have Heq : Hid (stripF s ts 0 false [] [] = ⟨ws, cs, 0, 0⟩) := hend
          clear hend
          go_wp2
          (try simp only [Exit.inBlock, Exit.then]); refine bodyPost_ret (results_tmp4 rfl _ _ _) rfl ?_
          exact ⟨A2, A3, c2, c3, ws, cs, 0, 0, rfl, ⟨ts, a, 0, Hi.out, by rw [if_pos rfl, Heq.out]⟩, own_base Rel.out.own hs1, own_base Rel.out.com hs1, hb2⟩
        · have Heq : Hid (stripF s ts 0 false [] [] = ⟨[], [], bg, 40⟩) := hend
          clear hend
          go_wp2
          (try simp only [Exit.inBlock, Exit.then]); refine bodyPost_ret (results_tmp4 rfl _ _ _) rfl ?_
          exact strip_err Hi.out Heq.out hb2
  · have hn : ((er : Int) != 0) = true := by rw [bne_iff_ne]; omega
    go_wp2
    (try simp only [Exit.inBlock, Exit.then]); refine bodyPost_ret (results_tmp4 rfl _ _ _) rfl ?_
    exact ⟨none, none, 0, 0, [], [], a, er, rfl, ⟨ts, a, er, Hi.out, by rw [if_neg her]⟩, World.ownsRow_nil _ _ _ _, World.ownsRow_nil _ _ _ _, hb1⟩
end Go.Proofs.Ytmekdghnkkephaa.Tok
