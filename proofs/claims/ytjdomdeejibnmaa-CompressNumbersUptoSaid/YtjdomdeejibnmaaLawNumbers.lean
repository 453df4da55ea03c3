/- The law CompressNumbers: every way through it returns true. -/
import Derived.Test.YtjdomdeejibnmaaLawWords
namespace Go.Proofs.Ytjdomdeejibnmaa.Tok
open Go.RowKit Go.Proofs.Ytjdomdeejibnmaa

def numsOf (xs : List Int) : List Int := xs.map fun x => 1 + x % 1000000
theorem nums_ok (xs : List Int) : NumOk (numsOf xs) := fun k hk _ => by
  unfold numAt
  have h : ∃ y : Int, (numsOf xs)[k] = 1 + y % 1000000 := ⟨xs[k]'(by simpa [numsOf] using hk), by simp [numsOf]⟩
  obtain ⟨y, hy⟩ := h
  rw [hy, decide_eq_true (show -1 ≤ 1 + y % 1000000 by omega), decide_eq_true (show 1 + y % 1000000 ≤ 1000000 by omega), show ((1 + y % 1000000 == 0) = false) by rw [beq_eq_false_iff_ne]; omega]
  rfl
theorem nums_take (xs : List Int) (k : Nat) (h : k < xs.length) : (numsOf xs).take (k + 1) = (numsOf xs).take k ++ [1 + xs[k] % 1000000] := by
  rw [List.take_succ_eq_append_getElem (by simpa [numsOf] using h)]
  simp [numsOf]

set_option maxHeartbeats 6400000 in
set_option maxRecDepth 8000 in
theorem law_numbers (A0 : Option Addr) (n0 c0 : Nat) (xs : List Int) (A1 : Option Addr) (n1 k1 : Nat) (A2 : Option Addr) (n2 k2 : Nat) (ss : List ByteArray) (l : List Int) (width : Int) (w : World) (hwd : width ≤ 9223372036854775807)
    (hn0 : n0 ≤ maxLen) (hn2 : n2 ≤ maxLen) (hx0 : ∀ x ∈ xs, 0 ≤ x ∧ x ≤ 4294967295) (hP : Rd w w.heap.size 1 A0 n0 (xs.map (Value.int .u32))) (hS : Woven w A1 n1 k1 ss) (hl : Rd w w.heap.size 1 A2 n2 (l.map (Value.int .i64))) :
    Calls Try.prog 4 #[.slice A0 n0 c0, .agg #[.slice A1 n1 k1, .slice A2 n2 k2], .int .i64 width] w fun e w' => e = .returned (.bool true) ∧ Below w.heap.size w w' := by
  obtain ⟨w0, hw0⟩ : ∃ w0, w0 = w.alloc (.cells #[.slice A1 n1 k1, .slice A2 n2 k2] 25) := ⟨_, rfl⟩
  have hb0 : Below w.heap.size w w0 := by rw [hw0]; exact (Below.refl _ _).alloc (Nat.le_refl _) _
  have hr0 : w0.heap[w.heap.size]? = some (.cells #[.slice A1 n1 k1, .slice A2 n2 k2] 25 (0, 0)) := by rw [hw0]; exact heap_alloc_new _ _
  have HL : Hid (∀ X, Below w0.heap.size w0 X → X.heap[w.heap.size]? = some (.cells #[.slice A1 n1 k1, .slice A2 n2 k2] 25 (0, 0)) ∧ Rd X X.heap.size 1 A0 n0 (xs.map (Value.int .u32)) ∧ Rd X X.heap.size 1 A1 n1 (ss.map Value.string) ∧ Rd X X.heap.size 1 A2 n2 (l.map (Value.int .i64)) ∧ Below w.heap.size w X) := fun X hX => by
    have hb := hb0.trans (hX.mono hb0.size)
    exact ⟨(hX.block _ (Array.getElem?_eq_some_iff.1 hr0).1).trans hr0, (hP.below hb).more hb.size, (hS.rd.below hb).more hb.size, (hl.below hb).more hb.size, hb⟩
  have HAw : Hid (∀ X, Below w0.heap.size w0 X → Calls Try.prog 7 #[] X fun e w' => e = .returned (.bool true) ∧ Below w.heap.size w w') := fun X hX =>
    (awake8_any X).mono fun e w' ⟨h1, h2⟩ => ⟨h1, (HL.out X hX).2.2.2.2.trans (h2.mono (HL.out X hX).2.2.2.2.size)⟩
  have Hlen := Lib.hid (show xs.length = n0 by have := hP.len; simp at this; omega)
  have HS := Lib.hid hS
  have HX0 := Lib.hid hx0
  clear hP hS hl hb0 hx0
  unfold maxLen at hn0 hn2
  by_cases h1 : 300 < (n0 : Int)
  · clear hr0
    go_enter Try.func4, Try.ntmps4
    go_wp2_with fail
    rw [← hw0]
    refine (HAw.out _ (Below.refl _ _)).mono ?_
    rintro e w' ⟨rfl, hb⟩
    go_wp2
    go_ret
    exact ⟨rfl, hb⟩
  · have g1 : decide (300 < (n0 : Int)) = false := decide_eq_false h1
    obtain ⟨r1, -, q1, -, -⟩ := HL.out w0 (Below.refl _ _)
    have HSm := Lib.hid (small_any A1 n1 k1 A2 n2 k2 ss w0 HS.out.len HS.out.cap HS.out.sum q1)
    have R1 := Lib.hid r1
    clear hr0 q1 r1
    by_cases h3 : SmallC n1 n2 ss
    · have H3 := Lib.hid h3
      obtain ⟨h31, h32, h33⟩ := h3
      go_enter Try.func4, Try.ntmps4
      go_wp2_with fail
      rw [← hw0]
      clear hw0
      refine (HSm.out).mono ?_
      rintro e w2 ⟨hbo, hb2⟩
      obtain rfl := hbo.of H3.out
      have HB2 := Lib.hid hb2
      clear hbo hb2
      obtain ⟨j0, hj0, jz0, jz1, jz2⟩ := info_parts infoInt
      go_wp2
      go_loopw [7, 8, 31] (fun tv v i wr => ∃ (k : Nat) (T : ByteArray), k ≤ n0 ∧ i = .int .i64 k ∧ tv = .string T ∧ Hid (T.data.toList = codeF ((numsOf xs).take k)) ∧ T.size ≤ 8 * k ∧ Hid (wr.ownsRow w2.heap.size 3 1 v k (((numsOf xs).take k).map (Value.int .i64))) ∧ Hid (Below w2.heap.size w2 wr)) (fun _ _ i _ => n0 - (intOf i).toNat)
      case atStart => exact ⟨0, ⟨#[]⟩, Nat.zero_le _, rfl, rfl, Lib.hid rfl, Nat.le_refl _, Lib.hid (World.ownsRow_nil _ _ _ _), Lib.hid (Below.refl _ _)⟩
      case round =>
        obtain ⟨k, T, hk, rfl, rfl, hT, hTs, hown, hbw⟩ := hrel
        have HBr := Lib.hid (HB2.out.trans (hbw.out.mono HB2.out.size))
        obtain ⟨C8, c8, rfl⟩ := own_slice hown.out
        by_cases hlt2 : k < n0
        · have hkl : k < xs.length := by have := Hlen.out; omega
          obtain ⟨bL, oL, rfl, hbL, hcL⟩ := (HL.out wr HBr.out).2.1.pos (by omega)
          have hcell := hcL k (.int .u32 xs[k]) (by simp [hkl])
          obtain ⟨hx1, hx2⟩ := HX0.out _ (List.getElem_mem hkl)
          have Hnt := Lib.hid (nums_take xs k hkl)
          obtain ⟨x, hx⟩ : ∃ x, x = xs[k] := ⟨_, rfl⟩
          rw [← hx] at hcell hx1 hx2 Hnt
          clear hx hcL
          have Hct : Hid (∀ S : ByteArray, S.data.toList = wrF (1 + x % 1000000) → (T ++ S).data.toList = codeF ((numsOf xs).take (k + 1))) := fun S hS => by
            rw [Hnt.out]
            have : codeF ((numsOf xs).take k ++ [1 + x % 1000000]) = codeF ((numsOf xs).take k) ++ wrF (1 + x % 1000000) := by simp [codeF]
            rw [this, ← hT.out, ← hS]
            simp
          have Hv := Lib.hid (letV_ok (show 1 ≤ 1 + x % 1000000 by omega) (by omega))
          have hz9 : T.size + (mkS (wrF (1 + x % 1000000))).size ≤ 8 * (k + 1) := by rw [mk_size]; have := wr_len (x := 1 + x % 1000000) (by omega); omega
          have Hc1 := Lib.hid (Hct.out _ (mk_list _))
          have hwr : IntKind.i64.wrap x = x := IntWalk.i64_in _ (by omega)
          have hm1 : 0 ≤ x % 1000000 := by omega
          have hm2 : x % 1000000 < 1000000 := by omega
          have h63 : Hid (k + 1 ≤ maxLen) := by show _ ≤ _; simp only [maxLen]; omega
          have hby : Hid ((k + 1) * 8 ≤ 140737488355328) := by show _ ≤ _; omega
          obtain ⟨S, hS⟩ : ∃ S, S = mkS (wrF (1 + x % 1000000)) := ⟨_, rfl⟩
          rw [← hS] at Hv hz9 Hc1
          clear hS Hct
          go_wp2_with (first
            | (go_at_call 16; refine (letters_any (1 + x % 1000000) _).mono ?_; rintro e w3 ⟨rfl, hb3⟩; rw [Hv.out]; have HO3 := Lib.hid (own_below hown.out hb3); have HB3 := Lib.hid (hbw.out.trans (hb3.mono hbw.out.size)); clear hb3)
            | (at_builtin; go_loud (refine wpList_append_own _ rfl (.tmp 49) (.tmp 51) 23 rfl w2.heap.size 3 j0 (.int .i64 0) 1 8 Try.underlying23 hj0 jz0 jz1 jz2 rfl (by decide) _ _ _ rfl (HO3.out.alloc _) ⟨w3.heap.size, 0, none⟩ 1 1 [.int .i64 (1 + x % 1000000)] rfl rfl (fun j u hu => one_new8 w3 _ _ hu) (one_int _) h63.out hby.out (by have := HB3.out.size; simp; omega) ?_); intro v4 w4 hown4 hgrow4 _))
          go_light
          refine ⟨⟨k + 1, _, by omega, by go_num, rfl, Hc1.out, by rw [ByteArray.size_append]; exact hz9, Lib.hid ?_, Lib.hid ((HB3.out.alloc HB3.out.size _).grown hgrow4 (by have := HB3.out.size; simp; omega) (fun q hq => (HO3.out.lt q hq).1))⟩, by simp [intOf]; omega⟩
          rw [Hnt.out, List.map_append]
          exact hown4
        · obtain rfl : k = n0 := by omega
          have e1 : (numsOf xs).take k = numsOf xs := List.take_of_length_le (by have := Hlen.out; simp [numsOf]; omega)
          rw [e1] at hT hown
          have HT : Hid (numsF T.data.toList 0 0 0 = (numsOf xs, none)) := by rw [hT.out]; exact nums_code (nums_ok xs)
          have Hnl : Hid ((numsOf xs).length = k) := by have := Hlen.out; show _ = _; simp [numsOf]; omega
          clear hT e1
          go_wp2_with fail
          refine (numbers_any T wr).mono ?_
          rintro e w5 ⟨A5, c5, o5, a5, er5, rfl, hn5, own5, hb5⟩
          obtain ⟨rfl, rfl, rfl⟩ := num_of (by omega) HT.out hn5
          rw [Hnl.out] at own5 ⊢
          have Own5 := Lib.hid own5
          have Hb5 := Lib.hid hb5
          have HB5 := Lib.hid (HBr.out.trans (hb5.mono HBr.out.size))
          clear own5 hb5 hn5
          go_wp2_with fail
          refine (eqInt_same A5 C8 k c5 c8 _ _ (numsOf xs) w5 (by omega) (Rd.own Own5.out) ((Rd.own hown.out).below Hb5.out)).mono ?_
          rintro e w' ⟨rfl, q, rfl⟩
          obtain ⟨w6, hw6⟩ : ∃ w6, w6 = w5.drewN q := ⟨_, rfl⟩
          have HB6 : Hid (Below w0.heap.size w0 w6) := by rw [hw6]; exact below_drewN8 HB5.out q
          rw [← hw6]
          clear hw6
          obtain ⟨r6, -, qa, qb, -⟩ := HL.out w6 HB6.out
          have HWr := Lib.hid (write_any A1 n1 k1 A2 n2 k2 ss l width w6 h31 h33 h32 hwd qa qb)
          have R6 := Lib.hid r6
          clear qa qb r6
          go_wp2_with (refine wpList_load_row rfl 25 (.tmp 4) rfl w.heap.size rfl 25 #[.slice A1 n1 k1, .slice A2 n2 k2] (0, 0) _ R6.out Try.underlying25 rfl sizeCode ?_)
          refine (HWr.out).mono ?_
          rintro e w7 ⟨ws, er2, v7, hWI, rfl, own7, hb7⟩
          obtain ⟨G1, g7, rfl⟩ := own_slice own7
          have HB7 := Lib.hid (HB6.out.trans (hb7.mono HB6.out.size))
          have Own7 := Lib.hid own7
          clear own7 hb7
          rcases hWI with ⟨_, rfl, rfl⟩ | ⟨_, _, rfl, rfl⟩ | ⟨hlab, hnum, rfl, rfl⟩
          iterate 2
            go_wp2_with (go_at_call 7; refine (HAw.out _ HB7.out).mono ?_; rintro e w' ⟨rfl, hb⟩)
            go_ret
            exact ⟨rfl, hb⟩
          have hw1 : 1 ≤ (max width 1).toNat := by omega
          obtain ⟨r7, -, qa, qb, -⟩ := HL.out w7 HB7.out
          have h8 := HS.out.len
          have h7 : l.length = n2 := by have := qb.len; simp at this; omega
          have hwl := words_len ss (max width 1).toNat hnum
          have hws := words_sum ss hw1 hnum
          have hIs := Lib.hid (words_back hw1 hlab hnum (by omega))
          obtain ⟨ws, hwse⟩ : ∃ ws, ws = wordsF ss l (max width 1).toNat := ⟨_, rfl⟩
          rw [← hwse] at Own7 hwl hws hIs ⊢
          have HRd := Lib.hid (read_any G1 ws.length g7 ws w7 (by omega) (own_cap Own7.out) (by omega) (Rd.own Own7.out))
          have Hn1 := Lib.hid (show ss.length = n1 from h8)
          have Hn2 := Lib.hid h7
          clear hwse hwl hws qa qb r7 hlab hnum h8 h7
          go_wp2_with fail
          refine (HRd.out).mono ?_
          rintro e w8 ⟨ls, ot, er, v, v2, hIs2, rfl, own1, own2, hb8⟩
          obtain ⟨rfl, rfl, rfl⟩ := hIs.out.same hIs2
          rw [Hn1.out] at own1
          rw [Hn2.out] at own2
          obtain ⟨B1, d1, rfl⟩ := own_slice own1
          obtain ⟨B2, d2, rfl⟩ := own_slice own2
          obtain ⟨W8, hW8⟩ : ∃ W8, W8 = w8.alloc (.cells #[.slice B1 n1 d1, .slice B2 n2 d2] 25) := ⟨_, rfl⟩
          have hb8a : Below w8.heap.size w8 W8 := by rw [hW8]; exact (Below.refl _ _).alloc (Nat.le_refl _) _
          have hrow : W8.heap[w8.heap.size]? = some (.cells #[.slice B1 n1 d1, .slice B2 n2 d2] 25 (0, 0)) := by rw [hW8]; exact heap_alloc_new _ _
          have HBW := Lib.hid ((HB7.out.trans (hb8.mono HB7.out.size)).trans (hb8a.mono (HB7.out.trans (hb8.mono HB7.out.size)).size))
          obtain ⟨r9, -, qa, qb, -⟩ := HL.out W8 HBW.out
          have HCo := Lib.hid (code_same B1 n1 d1 B2 n2 d2 A1 k1 A2 k2 ss l W8 (by omega) (by omega) (((Rd.own own1).below hb8a).more hb8a.size) (((Rd.own own2).below hb8a).more hb8a.size) qa qb)
          have R9 := Lib.hid r9
          have Rw := Lib.hid hrow
          clear own1 own2 hb8 hb8a hrow qa qb r9 hIs2
          go_wp2_with (first
            | (rw [← hW8]; refine wpList_load_row_g rfl 25 (.tmp 18) rfl w8.heap.size rfl 25 #[.slice B1 n1 d1, .slice B2 n2 d2] (0, 0) _ Rw.out Try.underlying25 rfl sizeCode ?_)
            | ((try rw [← hW8]); refine wpList_load_row_g rfl 25 (.tmp 4) rfl w.heap.size rfl 25 #[.slice A1 n1 k1, .slice A2 n2 k2] (0, 0) _ R9.out Try.underlying25 rfl sizeCode ?_)
            | (go_at_call 14; (try rw [← hW8]); go_loud (refine (HCo.out).mono ?_); rintro e w9 ⟨rfl, hb9⟩; have HB9 := Lib.hid (HBW.out.trans (hb9.mono HBW.out.size)); clear hb9)
            | (go_at_call 7; refine (HAw.out _ HB9.out).mono ?_; rintro e w' ⟨rfl, hb⟩))
          go_ret
          exact ⟨rfl, hb⟩
    · have H3 := Lib.hid h3
      go_enter Try.func4, Try.ntmps4
      go_wp2_with fail
      rw [← hw0]
      clear hw0
      refine (HSm.out).mono ?_
      rintro e w2 ⟨hbo, hb2⟩
      obtain rfl := hbo.not H3.out
      have HB2 := Lib.hid hb2
      clear hbo hb2
      go_wp2_with (go_at_call 7; refine (HAw.out _ HB2.out).mono ?_; rintro e w' ⟨rfl, hb⟩)
      go_ret
      exact ⟨rfl, hb⟩
end Go.Proofs.Ytjdomdeejibnmaa.Tok
