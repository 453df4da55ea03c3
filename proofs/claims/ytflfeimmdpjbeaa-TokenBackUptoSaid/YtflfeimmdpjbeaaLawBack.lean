/- The law TokenBack: every way through it returns true. -/
import Derived.Test.YtflfeimmdpjbeaaBackMath
import Derived.Test.YtflfeimmdpjbeaaWeaveWalks
import Derived.Test.YtflfeimmdpjbeaaOpenIn
import Derived.Test.YtflfeimmdpjbeaaAwake
namespace Go.Proofs.Ytflfeimmdpjbeaa.Tok
open Go.RowKit Go.Proofs.Ytflfeimmdpjbeaa

theorem words_map (s : ByteArray) (ts : List (Nat × Nat)) : (ts.map (intTok s)).map txt = (wordsOf s ts).map Value.string := by
  rw [txt_map]
  congr 1
  unfold wordsOf
  rw [List.map_map]
  rfl
theorem ba_self (s : ByteArray) : (⟨s.data.toList.toArray⟩ : ByteArray) = s := rfl

set_option maxHeartbeats 3200000 in
theorem law_back (s : ByteArray) (A A' : Option Addr) (n c m d : Nat) (gs ws : List ByteArray) (w : World) (hG : Woven w A n c gs) (hW : Woven w A' m d ws) (hn : n ≤ maxLen) (hm : m ≤ maxLen) :
    Calls Try.prog 7 #[.string s, .slice A n c, .slice A' m d] w fun e w' => e = .returned (.bool true) ∧ Below w.heap.size w w' := by
  unfold maxLen at hn hm
  have HG := Lib.hid hG
  have HW := Lib.hid hW
  clear hG hW
  by_cases h1 : 2000 < (s.size : Int)
  · go_enter Try.func7, Try.ntmps7
    go_wp2_with (go_at_call 15; refine (awake_any _).mono ?_; rintro e w' ⟨rfl, hb⟩)
    go_ret
    exact ⟨rfl, hb⟩
  · by_cases h2 : 100 < (n : Int)
    · go_enter Try.func7, Try.ntmps7
      go_wp2_with (go_at_call 15; refine (awake_any _).mono ?_; rintro e w' ⟨rfl, hb⟩)
      go_ret
      exact ⟨rfl, hb⟩
    · by_cases h3 : 100 < (m : Int)
      · go_enter Try.func7, Try.ntmps7
        go_wp2_with (go_at_call 15; refine (awake_any _).mono ?_; rintro e w' ⟨rfl, hb⟩)
        go_ret
        exact ⟨rfl, hb⟩
      · have hG1 := HG.out.sum
        have hW1 := HW.out.sum
        by_cases h4 : 3000 < sumSz gs
        · go_enter Try.func7, Try.ntmps7
          go_wp2_with fail
          refine (join_any A n c gs _ HG.out.len (by omega) HG.out.cap (by omega) HG.out.rd).mono ?_
          rintro e w1 ⟨o, rfl, ho, hb1⟩
          have ho' : 3000 < (o.size : Int) := by omega
          clear ho
          go_wp2_with (go_at_call 15; refine (awake_any _).mono ?_; rintro e w' ⟨rfl, hb⟩)
          go_ret
          exact ⟨rfl, hb1.trans (hb.mono hb1.size)⟩
        · go_enter Try.func7, Try.ntmps7
          go_wp2_with fail
          refine (join_any A n c gs _ HG.out.len (by omega) HG.out.cap (by omega) HG.out.rd).mono ?_
          rintro e w1 ⟨o, rfl, ho, hb1⟩
          have ho' : ¬ 3000 < (o.size : Int) := by omega
          clear ho
          go_wp2_with fail
          refine (join_any A' m d ws _ HW.out.len (by omega) HW.out.cap (by omega) ((HW.out.rd.below hb1).more hb1.size)).mono ?_
          rintro e w2 ⟨o2, rfl, ho2, hb2⟩
          have b2 := hb1.trans (hb2.mono hb1.size)
          by_cases h5 : 3000 < sumSz ws
          · have ho2' : 3000 < (o2.size : Int) := by omega
            clear ho2
            go_wp2_with (go_at_call 15; refine (awake_any _).mono ?_; rintro e w' ⟨rfl, hb⟩)
            go_ret
            exact ⟨rfl, b2.trans (hb.mono b2.size)⟩
          · have ho2' : ¬ 3000 < (o2.size : Int) := by omega
            clear ho2
            have hgb : Hid (∀ g ∈ gs, g.size ≤ 3000) := fun g hg => by have := sum_mem hg; omega
            have hwb : Hid (∀ g ∈ ws, g.size ≤ 3000) := fun g hg => by have := sum_mem hg; omega
            have hs2 : s.size ≤ 2000 := by omega
            clear h4 h5 hG1 hW1
            go_wp2_with fail
            refine (scan_good s _).mono ?_
            rintro e w3 ⟨A3, c3, ts, a3, er, rfl, hi3, hl3, own3, hb3⟩
            have Own3 := Lib.hid own3
            have Hi3 := Lib.hid hi3
            clear own3 hi3
            have b3 := b2.trans (hb3.mono b2.size)
            go_wp2_with fail
            refine (gaps_any s _).mono ?_
            rintro e w4 ⟨A4, c4, g4, ts4, a4, er4, rfl, hi4, hl4, hg4, own4, hb4⟩
            obtain ⟨rfl, rfl, rfl⟩ := Hi3.out.same hi4
            have Own4 := Lib.hid own4
            have Hg4 := Lib.hid hg4
            clear own4 hi4 hg4
            have b4 := b3.trans (hb4.mono b3.size)
            have tail : ∀ wx : World, Below w.heap.size w wx → Calls Try.prog 39 #[.slice A n c, .slice A' m d] wx fun e w' => ∃ (tx : ByteArray) (er5 : Nat), e = .returned (.tuple #[.string tx, .int .i64 (er5 : Nat)]) ∧ Below w.heap.size w w' ∧
                (er5 = 0 → ∀ ts5 a5 er6, ScanIs tx ts5 a5 er6 → er6 = 0 ∧ wordsOf tx ts5 = ws) ∧ er5 ≤ 100 := fun wx bx => by
              refine (weave_any A A' n m c d gs ws _ (by omega) (by omega) HG.out.len HW.out.len hgb.out hwb.out ((HG.out.rd.below bx).more bx.size) ((HW.out.rd.below bx).more bx.size)).mono ?_
              rintro e w5 ⟨rfl, hb5⟩
              refine ⟨_, _, rfl, bx.trans (hb5.mono bx.size), fun h0 ts5 a5 er6 hs => ?_, ?_⟩
              · exact weave_scan (by have := HW.out.len; omega) h0 (by simp) hs
              · unfold weaveR
                (repeat' split) <;> simp
            have Tail := Lib.hid tail
            clear tail
            by_cases he : er = 0
            · subst he
              have Hb := Lib.hid (back_gaps Hi3.out)
              rw [if_pos rfl] at Hg4
              go_wp2_with fail
              refine (texts_any A3 ts.length c3 (ts.map (intTok s)) _ (by omega) (by rw [← cells_int]; exact ((Rd.own Own3.out).below hb4).more hb4.size)).mono ?_
              rintro e w5 ⟨v5, rfl, own5, hb5⟩
              obtain ⟨A5, c5, rfl⟩ := own_slice own5
              rw [words_map] at own5
              have Own5 := Lib.hid own5
              clear own5
              have b5 := b4.trans (hb5.mono b4.size)
              go_wp2_with fail
              refine (weave_any A4 A5 g4.length ts.length c4 c5 g4 (wordsOf s ts) _ (by rw [Hg4.out, gapsOf_len]; omega) hl3 rfl (wordsOf_len s ts)
                (fun g hg => by
                  rw [Hg4.out] at hg
                  unfold gapsOf gapsTo at hg
                  obtain ⟨k, _, rfl⟩ := List.mem_map.1 hg
                  unfold gapK
                  split <;> (rw [ByteArray.size_extract]; omega))
                (fun g hg => by
                  unfold wordsOf at hg
                  obtain ⟨p, _, rfl⟩ := List.mem_map.1 hg
                  rw [ByteArray.size_extract]; omega)
                (((Rd.own Own4.out).below hb5).more hb5.size) (Rd.own Own5.out)).mono ?_
              rintro e w6 ⟨rfl, hb6⟩
              rw [Hg4.out, Hb.out]
              simp only [ba_self]
              have b6 := b5.trans (hb6.mono b5.size)
              go_wp2_with fail
              refine (Tail.out _ b6).mono ?_
              rintro e w7 ⟨tx, er7, rfl, b7, h7, h7b⟩
              have H7 := Lib.hid h7
              clear h7
              by_cases he7 : er7 = 0
              · subst he7
                go_wp2_with fail
                refine (scan_good tx _).mono ?_
                rintro e w8 ⟨A8, c8, ts8, a8, er8, rfl, hi8, hl8, own8, hb8⟩
                obtain ⟨rfl, hw8⟩ := H7.out (by trivial) ts8 a8 er8 hi8
                have b8 := b7.trans (hb8.mono b7.size)
                have Own8 := Lib.hid own8
                have Hw8 := Lib.hid hw8
                clear own8 hi8 hw8
                go_wp2_with fail
                refine (texts_any A8 ts8.length c8 (ts8.map (intTok tx)) _ (by omega) (by rw [← cells_int]; exact Rd.own Own8.out)).mono ?_
                rintro e w9 ⟨v9, rfl, own9, hb9⟩
                obtain ⟨A9, c9, rfl⟩ := own_slice own9
                rw [words_map, Hw8.out] at own9
                have hl9 : ts8.length = m := by rw [← wordsOf_len tx ts8, Hw8.out]; exact HW.out.len
                rw [hl9] at own9 ⊢
                have Own9 := Lib.hid own9
                clear own9
                have b9 := b8.trans (hb9.mono b8.size)
                go_wp2_with fail
                refine (eqStr_same A9 A' m c9 d _ _ ws _ (by omega) (Rd.own Own9.out) (HW.out.rd.below b9)).mono ?_
                rintro e w' ⟨rfl, q, rfl⟩
                have b10 := below_drewN b9 q
                go_wp2_with fail
                refine (awake_any _).mono ?_
                rintro e w11 ⟨rfl, hb11⟩
                go_wp2
                go_ret
                exact ⟨rfl, b10.trans (hb11.mono b10.size)⟩
              · have hd7 : ((er7 : Int) == 0) = false := by rw [beq_eq_false_iff_ne]; omega
                go_wp2_with fail
                refine (awake_any _).mono ?_
                rintro e w11 ⟨rfl, hb11⟩
                go_wp2
                go_ret
                exact ⟨rfl, b7.trans (hb11.mono b7.size)⟩
            · have hd0 : ((er : Int) == 0) = false := by rw [beq_eq_false_iff_ne]; omega
              go_wp2_with fail
              refine (Tail.out _ b4).mono ?_
              rintro e w7 ⟨tx, er7, rfl, b7, h7, h7b⟩
              have H7 := Lib.hid h7
              clear h7
              by_cases he7 : er7 = 0
              · subst he7
                go_wp2_with fail
                refine (scan_good tx _).mono ?_
                rintro e w8 ⟨A8, c8, ts8, a8, er8, rfl, hi8, hl8, own8, hb8⟩
                obtain ⟨rfl, hw8⟩ := H7.out (by trivial) ts8 a8 er8 hi8
                have b8 := b7.trans (hb8.mono b7.size)
                have Own8 := Lib.hid own8
                have Hw8 := Lib.hid hw8
                clear own8 hi8 hw8
                go_wp2_with fail
                refine (texts_any A8 ts8.length c8 (ts8.map (intTok tx)) _ (by omega) (by rw [← cells_int]; exact Rd.own Own8.out)).mono ?_
                rintro e w9 ⟨v9, rfl, own9, hb9⟩
                obtain ⟨A9, c9, rfl⟩ := own_slice own9
                rw [words_map, Hw8.out] at own9
                have hl9 : ts8.length = m := by rw [← wordsOf_len tx ts8, Hw8.out]; exact HW.out.len
                rw [hl9] at own9 ⊢
                have Own9 := Lib.hid own9
                clear own9
                have b9 := b8.trans (hb9.mono b8.size)
                go_wp2_with fail
                refine (eqStr_same A9 A' m c9 d _ _ ws _ (by omega) (Rd.own Own9.out) (HW.out.rd.below b9)).mono ?_
                rintro e w' ⟨rfl, q, rfl⟩
                have b10 := below_drewN b9 q
                go_wp2_with fail
                refine (awake_any _).mono ?_
                rintro e w11 ⟨rfl, hb11⟩
                go_wp2
                go_ret
                exact ⟨rfl, b10.trans (hb11.mono b10.size)⟩
              · have hd7 : ((er7 : Int) == 0) = false := by rw [beq_eq_false_iff_ne]; omega
                go_wp2_with fail
                refine (awake_any _).mono ?_
                rintro e w11 ⟨rfl, hb11⟩
                go_wp2
                go_ret
                exact ⟨rfl, b7.trans (hb11.mono b7.size)⟩
end Go.Proofs.Ytflfeimmdpjbeaa.Tok
