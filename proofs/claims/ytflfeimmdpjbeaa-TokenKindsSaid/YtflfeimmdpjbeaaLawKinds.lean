/- The law TokenKinds: every way through it returns true. -/
import Derived.Test.YtflfeimmdpjbeaaAwake
import Derived.Test.YtflfeimmdpjbeaaKeywords
import Derived.Test.YtflfeimmdpjbeaaScanIs
namespace Go.Proofs.Ytflfeimmdpjbeaa.Tok
open Go.RowKit Go.Proofs.Ytflfeimmdpjbeaa

theorem spaceR (s : ByteArray) : allB spB s = allB (onCls qG) s := (allB_congr onG s).symm

set_option maxHeartbeats 3200000 in
theorem law_kinds (s : ByteArray) (hs : s.size ≤ maxLen) (A : Option Addr) (n c : Nat) (ts : List (ByteArray × Int)) (w : World) (hn : n ≤ maxLen) (hr : n ≤ 100 → Rd w w.heap.size 2 A n (ts.flatMap tokI)) :
    Calls Try.prog 4 #[.string s, .slice A n c] w fun e w' => e = .returned (.bool true) ∧ Below w.heap.size w w' := by
  unfold maxLen at hs hn
  have Hr := Lib.hid hr
  clear hr
  by_cases hbig : 1000 < (s.size : Int)
  · go_enter Try.func4, Try.ntmps4
    go_wp2_with (go_at_call 15; refine (awake_any _).mono ?_; rintro e w' ⟨rfl, hb⟩)
    go_ret
    exact ⟨rfl, hb⟩
  · by_cases hmany : 100 < (n : Int)
    · go_enter Try.func4, Try.ntmps4
      go_wp2_with (go_at_call 15; refine (awake_any _).mono ?_; rintro e w' ⟨rfl, hb⟩)
      go_ret
      exact ⟨rfl, hb⟩
    · have hs' : s.size ≤ 281474976710656 := by omega
      have R0 := Hr.out (by omega)
      have HR := Lib.hid R0
      clear R0
      have HL := Lib.hid (labR s)
      have HS := Lib.hid (symR s)
      have HG := Lib.hid (spaceR s)
      go_enter Try.func4, Try.ntmps4
      go_wp2_with fail
      refine (kind_any s hs' _).mono ?_
      rintro e w1 ⟨rfl, hb1⟩
      go_wp2_with fail
      refine (rkind_any s hs' _).mono ?_
      rintro e w2 ⟨rfl, hb2⟩
      go_wp2_with fail
      refine (isKeyword_any s hs' _).mono ?_
      rintro e w3 ⟨rfl, hb3⟩
      go_wp2_with fail
      refine (rIsKeyword_any s hs' _).mono ?_
      rintro e w4 ⟨rfl, hb4⟩
      go_wp2_with fail
      refine (IsLabel_any s hs' _).mono ?_
      rintro e w' ⟨rfl, rfl⟩
      go_wp2_with fail
      refine (rIsLabel_any s hs' _).mono ?_
      rintro e w' ⟨rfl, rfl⟩
      rw [HL.out, show (lenB s && allB (onCls qL) s) = labB s from rfl]
      go_wp2_with fail
      refine (IsSymbol_any s hs' _).mono ?_
      rintro e w' ⟨rfl, rfl⟩
      go_wp2_with fail
      refine (rIsSymbol_any s hs' _).mono ?_
      rintro e w' ⟨rfl, rfl⟩
      rw [HS.out, show (lenB s && allB (onCls qS) s) = symB s from rfl]
      go_wp2_with fail
      refine (IsSpace_any s hs' _).mono ?_
      rintro e w' ⟨rfl, rfl⟩
      go_wp2_with fail
      refine (rIsSpace_any s hs' _).mono ?_
      rintro e w' ⟨rfl, rfl⟩
      rw [HG.out]
      go_wp2_with fail
      refine (Keywords_any _).mono ?_
      rintro e w5 ⟨v5, rfl, own5, hb5⟩
      obtain ⟨A5, c5, rfl⟩ := own_slice own5
      have Own5 := Lib.hid own5
      clear own5
      go_wp2_with fail
      refine (rkeywords_any _).mono ?_
      rintro e w6 ⟨v6, rfl, own6, hb6⟩
      obtain ⟨A6, c6, rfl⟩ := own_slice own6
      have Own6 := Lib.hid own6
      clear own6
      go_wp2_with fail
      refine (eqStr_same A5 A6 15 c5 c6 _ _ kwSs _ (by omega) (by rw [← kwL_eq]; exact (Rd.own Own5.out).below hb6) (by rw [← kwL_eq]; exact Rd.own Own6.out)).mono ?_
      rintro e w' ⟨rfl, q6, rfl⟩
      have b2 : Below w.heap.size w w2 := hb1.trans (hb2.mono hb1.size)
      have b3 := b2.trans (hb3.mono b2.size)
      have b4 := b3.trans (hb4.mono b3.size)
      have b5 := b4.trans (hb5.mono b4.size)
      have b6 := below_drewN (b5.trans (hb6.mono b5.size)) q6
      go_wp2_with fail
      refine (texts_any A n c ts _ (by omega) ((HR.out.below b6).more b6.size)).mono ?_
      rintro e w7 ⟨v7, rfl, own7, hb7⟩
      obtain ⟨A7, c7, rfl⟩ := own_slice own7
      have Own7 := Lib.hid own7
      clear own7
      have b7 := b6.trans (hb7.mono b6.size)
      go_wp2_with fail
      refine (rtexts_any A n c ts _ (by omega) ((HR.out.below b7).more b7.size)).mono ?_
      rintro e w8 ⟨v8, rfl, own8, hb8⟩
      obtain ⟨A8, c8, rfl⟩ := own_slice own8
      have Own8 := Lib.hid own8
      clear own8
      go_wp2_with fail
      refine (eqStr_same A7 A8 n c7 c8 _ _ (ts.map (·.1)) _ (by omega) (by rw [← txt_map]; exact (Rd.own Own7.out).below hb8) (by rw [← txt_map]; exact Rd.own Own8.out)).mono ?_
      rintro e w' ⟨rfl, q8, rfl⟩
      have b8 := below_drewN (b7.trans (hb8.mono b7.size)) q8
      go_wp2_with fail
      refine (awake_any _).mono ?_
      rintro e w9 ⟨rfl, hb9⟩
      go_wp2
      go_ret
      exact ⟨rfl, b8.trans (hb9.mono b8.size)⟩
end Go.Proofs.Ytflfeimmdpjbeaa.Tok
