/- The law CompressWords: every way through it returns true. -/
import Derived.Test.YtjdomdeejibnmaaCodes8
import Derived.Test.YtjdomdeejibnmaaOpenIn8
import Derived.Test.YtjdomdeejibnmaaItems
namespace Go.Proofs.Ytjdomdeejibnmaa.Tok
open Go.RowKit Go.Proofs.Ytjdomdeejibnmaa

theorem RdIs.len {ss ls : List ByteArray} {o : List Int} {er : Nat} (h : RdIs ss ls o er) : ls.length ≤ ss.length ∧ o.length ≤ 40000 := by
  rcases h with ⟨_, _, rfl, rfl⟩ | ⟨ls', bs, hd, ⟨_, _, rfl, rfl⟩ | ⟨hb, ⟨_, _, _, _, rfl, rfl⟩ | ⟨hn, _, rfl⟩⟩⟩
  · simp
  · simp
  · simp
  · obtain ⟨_, k, _, _, _, rfl, _⟩ := hd
    have := numsF_len bs 0 0 0
    rw [hn] at this
    refine ⟨by simp; omega, by simp only at this; omega⟩

set_option maxHeartbeats 6400000 in
set_option maxRecDepth 8000 in
theorem law_words (A0 : Option Addr) (n0 c0 : Nat) (ps : List ByteArray) (A1 : Option Addr) (n1 k1 : Nat) (A2 : Option Addr) (n2 k2 : Nat) (ss : List ByteArray) (l : List Int) (width : Int) (w : World) (hwd : width ≤ 9223372036854775807)
    (hn0 : n0 ≤ maxLen) (hn2 : n2 ≤ maxLen) (hP : Woven w A0 n0 c0 ps) (hS : Woven w A1 n1 k1 ss) (hl : Rd w w.heap.size 1 A2 n2 (l.map (Value.int .i64))) :
    Calls Try.prog 3 #[.slice A0 n0 c0, .agg #[.slice A1 n1 k1, .slice A2 n2 k2], .int .i64 width] w fun e w' => e = .returned (.bool true) ∧ Below w.heap.size w w' := by
  obtain ⟨w0, hw0⟩ : ∃ w0, w0 = w.alloc (.cells #[.slice A1 n1 k1, .slice A2 n2 k2] 25) := ⟨_, rfl⟩
  have hb0 : Below w.heap.size w w0 := by rw [hw0]; exact (Below.refl _ _).alloc (Nat.le_refl _) _
  have hr0 : w0.heap[w.heap.size]? = some (.cells #[.slice A1 n1 k1, .slice A2 n2 k2] 25 (0, 0)) := by rw [hw0]; exact heap_alloc_new _ _
  have HL : Hid (∀ X, Below w0.heap.size w0 X → X.heap[w.heap.size]? = some (.cells #[.slice A1 n1 k1, .slice A2 n2 k2] 25 (0, 0)) ∧ Rd X X.heap.size 1 A0 n0 (ps.map Value.string) ∧ Rd X X.heap.size 1 A1 n1 (ss.map Value.string) ∧ Rd X X.heap.size 1 A2 n2 (l.map (Value.int .i64)) ∧ Below w.heap.size w X) := fun X hX => by
    have hb := hb0.trans (hX.mono hb0.size)
    exact ⟨(hX.block _ (Array.getElem?_eq_some_iff.1 hr0).1).trans hr0, (hP.rd.below hb).more hb.size, (hS.rd.below hb).more hb.size, (hl.below hb).more hb.size, hb⟩
  have HAw : Hid (∀ X, Below w0.heap.size w0 X → Calls Try.prog 7 #[] X fun e w' => e = .returned (.bool true) ∧ Below w.heap.size w w') := fun X hX =>
    (awake8_any X).mono fun e w' ⟨h1, h2⟩ => ⟨h1, (HL.out X hX).2.2.2.2.trans (h2.mono (HL.out X hX).2.2.2.2.size)⟩
  have HP := Lib.hid hP
  have HS := Lib.hid hS
  clear hP hS hl hb0
  unfold maxLen at hn0 hn2
  by_cases h1 : 300 < (n0 : Int)
  · clear hr0
    go_enter Try.func3, Try.ntmps3
    go_wp2_with fail
    rw [← hw0]
    refine (HAw.out _ (Below.refl _ _)).mono ?_
    rintro e w' ⟨rfl, hb⟩
    go_wp2
    go_ret
    exact ⟨rfl, hb⟩
  · have hp1 := HP.out.sum
    have hp2 := HP.out.len
    have hp3 := HP.out.cap
    go_enter Try.func3, Try.ntmps3
    go_wp2_with fail
    rw [← hw0]
    clear hw0
    refine (join_any A0 n0 c0 ps w0 hp2 (by omega) hp3 (by omega) (HL.out w0 (Below.refl _ _)).2.1).mono ?_
    rintro e w1 ⟨o, rfl, ho, hb1⟩
    by_cases h2 : 4000 < sumSz ps
    · have ho' : decide (4000 < (o.size : Int)) = true := decide_eq_true (by omega)
      have ho2 : 4000 < (o.size : Int) := by omega
      clear ho hr0
      go_wp2_with (go_at_call 7; refine (HAw.out _ hb1).mono ?_; rintro e w' ⟨rfl, hb⟩)
      go_ret
      exact ⟨rfl, hb⟩
    · have ho' : decide (4000 < (o.size : Int)) = false := decide_eq_false (by omega)
      have ho2 : ¬ 4000 < (o.size : Int) := by omega
      obtain ⟨r1, -, q1, -, -⟩ := HL.out w1 hb1
      have HSm := Lib.hid (small_any A1 n1 k1 A2 n2 k2 ss w1 HS.out.len HS.out.cap HS.out.sum q1)
      have Hb1 := Lib.hid hb1
      clear ho hr0 q1 hb1
      by_cases h3 : SmallC n1 n2 ss
      · have H3 := Lib.hid h3
        obtain ⟨h31, h32, h33⟩ := h3
        go_wp2_with (first
          | (refine wpList_load_row_g rfl 25 (.tmp 4) rfl w.heap.size rfl 25 #[.slice A1 n1 k1, .slice A2 n2 k2] (0, 0) _ r1 Try.underlying25 rfl sizeCode ?_)
          | (go_at_call 6; refine (HSm.out).mono ?_; rintro e w2 ⟨hbo, hb2⟩; obtain rfl := hbo.of H3.out; clear hbo; have HB2 := Lib.hid (Hb1.out.trans (hb2.mono Hb1.out.size)); clear hb2))
        obtain ⟨-, q0, -, -, hbw2⟩ := HL.out w2 HB2.out
        have Hbw2 := Lib.hid hbw2
        refine (read_any A0 n0 c0 ps w2 (by omega) hp3 (by omega) q0).mono ?_
        rintro e w3 ⟨ls, ot, er, v, v2, hIs, rfl, own1, own2, hb3⟩
        obtain ⟨B1, d1, rfl⟩ := own_slice own1
        obtain ⟨B2, d2, rfl⟩ := own_slice own2
        have HIs := Lib.hid hIs
        have Own1 := Lib.hid own1
        have Own2 := Lib.hid own2
        have HB3 := Lib.hid (HB2.out.trans (hb3.mono HB2.out.size))
        clear hIs own1 own2 hb3 r1 q0 hbw2
        obtain ⟨W3, hW3⟩ : ∃ W3, W3 = w3.alloc (.cells #[.slice B1 ls.length d1, .slice B2 ot.length d2] 25) := ⟨_, rfl⟩
        have hb3a : Below w3.heap.size w3 W3 := by rw [hW3]; exact (Below.refl _ _).alloc (Nat.le_refl _) _
        have HBW3 := Lib.hid (HB3.out.trans (hb3a.mono HB3.out.size))
        have hrow7 : W3.heap[w3.heap.size]? = some (.cells #[.slice B1 ls.length d1, .slice B2 ot.length d2] 25 (0, 0)) := by rw [hW3]; exact heap_alloc_new _ _
        have HQ7 : Hid (∀ X, Below W3.heap.size W3 X → X.heap[w3.heap.size]? = some (.cells #[.slice B1 ls.length d1, .slice B2 ot.length d2] 25 (0, 0)) ∧ Rd X X.heap.size 1 B1 ls.length (ls.map Value.string) ∧ Rd X X.heap.size 1 B2 ot.length (ot.map (Value.int .i64))) := fun X hX => by
          have hb := hb3a.trans (hX.mono hb3a.size)
          exact ⟨(hX.block _ (Array.getElem?_eq_some_iff.1 hrow7).1).trans hrow7, ((Rd.own Own1.out).below hb).more hb.size, ((Rd.own Own2.out).below hb).more hb.size⟩
        clear hb3a hrow7
        go_wp2_with fail
        rw [← hW3]
        clear hW3
        obtain ⟨-, q0, -, -, -⟩ := HL.out W3 HBW3.out
        refine (rread_any A0 n0 c0 ps W3 (by omega) hp3 (by omega) q0).mono ?_
        rintro e w4 ⟨ls', ot', er', v, v2, hIs', rfl, own1, own2, hb4⟩
        obtain ⟨rfl, rfl, rfl⟩ := HIs.out.same hIs'
        obtain ⟨E1, f1, rfl⟩ := own_slice own1
        obtain ⟨E2, f2, rfl⟩ := own_slice own2
        have Own1' := Lib.hid own1
        have Own2' := Lib.hid own2
        obtain ⟨W4, hW4⟩ : ∃ W4, W4 = w4.alloc (.cells #[.slice E1 ls.length f1, .slice E2 ot.length f2] 32) := ⟨_, rfl⟩
        have hb4a : Below w4.heap.size w4 W4 := by rw [hW4]; exact (Below.refl _ _).alloc (Nat.le_refl _) _
        have HB34 := Lib.hid (hb4.trans (hb4a.mono hb4.size))
        have hrow9 : W4.heap[w4.heap.size]? = some (.cells #[.slice E1 ls.length f1, .slice E2 ot.length f2] 32 (0, 0)) := by rw [hW4]; exact heap_alloc_new _ _
        have HQ9 : Hid (∀ X, Below W4.heap.size W4 X → X.heap[w4.heap.size]? = some (.cells #[.slice E1 ls.length f1, .slice E2 ot.length f2] 32 (0, 0)) ∧ Rd X X.heap.size 1 E1 ls.length (ls.map Value.string) ∧ Rd X X.heap.size 1 E2 ot.length (ot.map (Value.int .i64)) ∧ Below W3.heap.size W3 X ∧ Below w0.heap.size w0 X) := fun X hX => by
          have hb := hb4a.trans (hX.mono hb4a.size)
          have h3 := HB34.out.trans (hX.mono HB34.out.size)
          exact ⟨(hX.block _ (Array.getElem?_eq_some_iff.1 hrow9).1).trans hrow9, ((Rd.own Own1'.out).below hb).more hb.size, ((Rd.own Own2'.out).below hb).more hb.size, h3, HBW3.out.trans (h3.mono HBW3.out.size)⟩
        clear hb4 hb4a hrow9 own1 own2 hIs' q0
        have Ht4 := Lib.hid (HQ9.out W4 (Below.refl _ _))
        obtain ⟨r4, -, qa, qb, -⟩ := HL.out W4 Ht4.out.2.2.2.2
        have HWr := Lib.hid (write_any A1 n1 k1 A2 n2 k2 ss l width W4 h31 h33 h32 hwd qa qb)
        clear qa qb
        have R4 := Lib.hid r4
        clear r4
        go_wp2_with (first
          | (rw [← hW4]; refine wpList_load_row rfl 25 (.tmp 4) rfl w.heap.size rfl 25 #[.slice A1 n1 k1, .slice A2 n2 k2] (0, 0) _ R4.out Try.underlying25 rfl sizeCode ?_)
          | fail)
        rw [← hW4]
        clear hW4
        refine (HWr.out).mono ?_
        rintro e w5 ⟨ws, er2, v5, hWI, rfl, own5, hb5⟩
        obtain ⟨G1, g1, rfl⟩ := own_slice own5
        have HWI := Lib.hid hWI
        have Own5 := Lib.hid own5
        have Hb5 := Lib.hid hb5
        have Ht5 := Lib.hid (HQ9.out w5 hb5)
        obtain ⟨r5, -, qa, qb, -⟩ := HL.out w5 Ht5.out.2.2.2.2
        have HWr2 := Lib.hid (rwrite_any A1 n1 k1 A2 n2 k2 ss l width w5 h31 HS.out.cap h33 h32 qa qb)
        have R5 := Lib.hid r5
        clear qa qb r5 hWI own5 hb5
        go_wp2_with (first
          | (refine wpList_load_row rfl 25 (.tmp 4) rfl w.heap.size rfl 25 #[.slice A1 n1 k1, .slice A2 n2 k2] (0, 0) _ R5.out Try.underlying25 rfl sizeCode ?_)
          | fail)
        refine (HWr2.out).mono ?_
        rintro e w6 ⟨ws', er2', v6, hWI', rfl, own6, hb6⟩
        obtain ⟨rfl, rfl⟩ := HWI.out.same hWI'
        obtain ⟨G2, g2, rfl⟩ := own_slice own6
        have Own6 := Lib.hid own6
        have HB56 := Lib.hid (Hb5.out.trans (hb6.mono Hb5.out.size))
        have Hb6 := Lib.hid hb6
        obtain ⟨x9, xa, xb, hx3, hx0⟩ := HQ9.out w6 HB56.out
        obtain ⟨x7, xc, xd⟩ := HQ7.out w6 hx3
        obtain ⟨-, q6, -, -, hbw6⟩ := HL.out w6 hx0
        have hwl : ws.length ≤ 10000 := by
          rcases HWI.out with ⟨_, rfl, _⟩ | ⟨_, _, rfl, _⟩ | ⟨_, hno, rfl, _⟩
          · simp
          · simp
          · have h9 := words_len ss (max width 1).toNat hno
            have h8 := HS.out.len
            have h7 : l.length = n2 := by have := (HL.out w6 hx0).2.2.2.1.len; simp at this; omega
            omega
        have hrl : ls.length ≤ 1000000 ∧ ot.length ≤ 1000000 := by have := HIs.out.len; omega
        have HIsP := Lib.hid (is_any A0 n0 c0 ps w6 (by omega) q6)
        have HIsR := Lib.hid (ris_any A0 n0 c0 ps w6 (by omega) q6)
        have HCo := Lib.hid (code_same B1 ls.length d1 B2 ot.length d2 E1 f1 E2 f2 ls ot w6 hrl.1 hrl.2 xc xd xa xb)
        have X7 := Lib.hid x7
        have X9 := Lib.hid x9
        have HX0 := Lib.hid hx0
        clear hWI' own6 hb6 x9 xa xb hx3 hx0 x7 xc xd q6 hbw6
        go_wp2_with (first
          | (go_at_call 12; refine (HIsP.out).mono ?_; rintro e w' ⟨rfl, rfl⟩)
          | (go_at_call 13; refine (HIsR.out).mono ?_; rintro e w' ⟨rfl, rfl⟩)
          | (refine wpList_load_row_g rfl 25 (.tmp 7) rfl w3.heap.size rfl 25 #[.slice B1 ls.length d1, .slice B2 ot.length d2] (0, 0) _ X7.out Try.underlying25 rfl sizeCode ?_)
          | (refine wpList_load_row_g rfl 32 (.tmp 9) rfl w4.heap.size rfl 32 #[.slice E1 ls.length f1, .slice E2 ot.length f2] (0, 0) _ X9.out Try.underlying32 rfl sizeRCode ?_)
          | (go_at_call 14; refine (HCo.out).mono ?_; rintro e w7 ⟨rfl, hb7⟩; have HB7 := Lib.hid (HX0.out.trans (hb7.mono HX0.out.size)); have Hb7 := Lib.hid hb7; clear hb7)
          | (go_at_call 15; refine (eqStr_same G1 G2 ws.length g1 g2 _ _ ws w7 (by omega) ((Rd.own Own5.out).below (Hb6.out.trans (Hb7.out.mono Hb6.out.size))) ((Rd.own Own6.out).below Hb7.out)).mono ?_; rintro e w' ⟨rfl, q7, rfl⟩; have HB8 := Lib.hid (below_drewN8 HB7.out q7))
          | (go_at_call 7; refine (HAw.out _ HB8.out).mono ?_; rintro e w' ⟨rfl, hb⟩))
        go_ret
        exact ⟨rfl, hb⟩
      · have H3 := Lib.hid h3
        go_wp2_with (first
          | (refine wpList_load_row_g rfl 25 (.tmp 4) rfl w.heap.size rfl 25 #[.slice A1 n1 k1, .slice A2 n2 k2] (0, 0) _ r1 Try.underlying25 rfl sizeCode ?_)
          | (go_at_call 6; refine (HSm.out).mono ?_; rintro e w2 ⟨hbo, hb2⟩; obtain rfl := hbo.not H3.out; clear hbo; have HB2 := Lib.hid (Hb1.out.trans (hb2.mono Hb1.out.size)); clear hb2)
          | (go_at_call 7; refine (HAw.out _ HB2.out).mono ?_; rintro e w' ⟨rfl, hb⟩))
        go_ret
        exact ⟨rfl, hb⟩
end Go.Proofs.Ytjdomdeejibnmaa.Tok
