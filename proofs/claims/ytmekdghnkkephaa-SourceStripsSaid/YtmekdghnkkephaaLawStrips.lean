/- The law SourceStrips: every way through it returns true. -/
import Derived.Test.YtmekdghnkkephaaComs
import Derived.Test.YtmekdghnkkephaaAwake2
namespace Go.Proofs.Ytmekdghnkkephaa.Tok
open Go.RowKit Go.Proofs.Ytmekdghnkkephaa

/-- What Strip makes of a text, as plain lists. -/
def StripIs (s : ByteArray) (ws : List (Nat × Nat)) (cs : List (Nat × Nat × Nat)) (a er : Nat) : Prop :=
  ∃ ts a0 er0, ScanIs s ts a0 er0 ∧ (⟨ws, cs, a, er⟩ : SR) = if er0 = 0 then stripF s ts 0 false [] [] else ⟨[], [], a0, er0⟩
theorem StripIs.same {s : ByteArray} {ws ws' : List (Nat × Nat)} {cs cs' : List (Nat × Nat × Nat)} {a a' er er' : Nat} (h : StripIs s ws cs a er) (h' : StripIs s ws' cs' a' er') : ws = ws' ∧ cs = cs' ∧ a = a' ∧ er = er' := by
  obtain ⟨ts, a0, er0, hi, hr⟩ := h
  obtain ⟨ts', a0', er0', hi', hr'⟩ := h'
  obtain ⟨rfl, rfl, rfl⟩ := hi.same hi'
  have := hr.trans hr'.symm
  injection this with h1 h2 h3 h4
  exact ⟨h1, h2, h3, h4⟩
theorem stripF_len (s : ByteArray) (ts : List (Nat × Nat)) : ∀ (bg : Nat) (ins : Bool) (ws : List (Nat × Nat)) (cs : List (Nat × Nat × Nat)), (stripF s ts bg ins ws cs).ws.length ≤ ws.length + ts.length ∧ (stripF s ts bg ins ws cs).cs.length ≤ cs.length + ts.length := by
  induction ts with
  | nil =>
    intro bg ins ws cs
    unfold stripF
    split <;> simp
  | cons p r ih =>
    intro bg ins ws cs
    unfold stripF
    simp only [List.length_cons]
    split
    · simp
    · split
      · simp
      · split
        · have := ih p.1 true ws cs; omega
        · split
          · have := ih bg false ws (cs ++ [(bg, p.1, ws.length)]); simp at this; omega
          · split
            · have := ih bg ins (ws ++ [p]) cs; simp at this; omega
            · have := ih bg ins ws cs; omega
theorem StripIs.len {s : ByteArray} {ws : List (Nat × Nat)} {cs : List (Nat × Nat × Nat)} {a er : Nat} (h : StripIs s ws cs a er) : ws.length ≤ 8000 ∧ cs.length ≤ 8000 := by
  obtain ⟨ts, a0, er0, hi, hr⟩ := h
  have hl : ts.length ≤ 8000 := by
    rcases hi with ⟨_, rfl, _⟩ | ⟨_, _, rfl, _⟩ | ⟨_, _, _, _, rfl, _⟩ | ⟨_, _, h, rfl, _⟩
    · simp
    · simp
    · simp
    · exact h
  have hf := stripF_len s ts 0 false [] []
  simp only [List.length_nil, Nat.zero_add] at hf
  split at hr
  · rw [← hr] at hf
    exact ⟨Nat.le_trans hf.1 hl, Nat.le_trans hf.2 hl⟩
  · injection hr with h1 h2
    subst h1 h2
    simp

set_option maxHeartbeats 3200000 in
set_option maxRecDepth 8000 in
theorem law_strips (s : ByteArray) (hs : s.size ≤ maxLen) (w : World) (hm : HasMax w) :
    Calls Try.prog 3 #[.string s] w fun e w' => e = .returned (.bool true) ∧ Below w.heap.size w w' := by
  unfold maxLen at hs
  have HM := Lib.hid hm
  clear hm
  by_cases hbig : 3000 < (s.size : Int) ∧ (s.size : Int) ≤ 40000
  · obtain ⟨h1, h2⟩ := hbig
    go_enter Try.func3, Try.ntmps3
    go_wp2_with (go_at_call 9; refine (awake2_any _ HM.out).mono ?_; rintro e w' ⟨rfl, hb⟩)
    go_ret
    exact ⟨rfl, hb⟩
  · have hd : (s.size : Int) ≤ 3000 ∨ 40000 < (s.size : Int) := by omega
    clear hbig
    rcases hd with hd | hd
    all_goals
      go_enter Try.func3, Try.ntmps3
      go_wp2_with fail
      refine (strip_any s _ HM.out).mono ?_
      rintro e w1 ⟨A1, B1, c1, d1, ws, cs, a1, er1, rfl, hi1, own1, com1, hb1⟩
      have Own1 := Lib.hid own1
      have Com1 := Lib.hid com1
      have Hi1 : Hid (StripIs s ws cs a1 er1) := hi1
      have hl := Hi1.out.len
      clear own1 com1 hi1
      go_wp2_with fail
      refine (rstrip_any s _).mono ?_
      rintro e w2 ⟨A2, B2, c2, d2, ws2, cs2, a2, er2, rfl, hi2, own2, com2, hb2⟩
      obtain ⟨rfl, rfl, rfl, rfl⟩ := Hi1.out.same hi2
      have Own2 := Lib.hid own2
      have Com2 := Lib.hid com2
      clear own2 com2 hi2
      have b2 : Below w.heap.size w w2 := hb1.trans (hb2.mono hb1.size)
      have R1 : Hid (Rd w2 w2.heap.size 2 A1 ws.length (cellsOf s ws)) := ((Rd.own Own1.out).below hb2).more hb2.size
      have R2 : Hid (Rd w2 w2.heap.size 2 A2 ws.length (cellsOf s ws)) := Rd.own Own2.out
      have Q1 : Hid (Rd w2 w2.heap.size 4 B1 cs.length (comCells s cs)) := ((Rd.own Com1.out).below hb2).more hb2.size
      have Q2 : Hid (Rd w2 w2.heap.size 4 B2 cs.length (comCells s cs)) := Rd.own Com2.out
      obtain ⟨hl1, hl2⟩ := hl
      go_wp2_with fail
      refine (eqTok_same A1 A2 ws.length c1 c2 _ _ (ws.map (tk s)) _ (by omega) (by rw [← cells_tok]; exact R1.out) (by rw [← cells_tok]; exact R2.out)).mono ?_
      rintro e w' ⟨rfl, q, rfl⟩
      go_wp2_with fail
      refine (comments_any s cs B1 cs.length d1 (w2.drewN q) (by omega) (Q1.out.drewN q)).mono ?_
      rintro e w3 ⟨v3, rfl, com3, hb3⟩
      obtain ⟨B3, d3, rfl⟩ := own_slice com3
      have Com3 := Lib.hid com3
      clear com3
      have hb3' : Below w2.heap.size w2 w3 := (below_drewN (Below.refl _ w2) q).trans hb3
      clear hb3
      go_wp2_with fail
      refine (eqCom_same s cs B3 B2 cs.length d3 d2 _ _ _ (by omega) (Rd.own Com3.out) ((Q2.out.below hb3').more hb3'.size)).mono ?_
      rintro e w' ⟨rfl, q3, rfl⟩
      have b3 := b2.trans (hb3'.mono b2.size)
      go_wp2_with fail
      refine (awake2_any _ (HM.out.below HM.out.lt (below_drewN b3 q3))).mono ?_
      rintro e w5 ⟨rfl, hb5⟩
      go_wp2
      go_ret
      exact ⟨rfl, (below_drewN b3 q3).trans (hb5.mono b3.size)⟩
end Go.Proofs.Ytmekdghnkkephaa.Tok
