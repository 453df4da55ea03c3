/- The law TokenScans: every way through it returns true. -/
import Derived.Test.YtflfeimmdpjbeaaScanIs
import Derived.Test.YtflfeimmdpjbeaaAwake
namespace Go.Proofs.Ytflfeimmdpjbeaa.Tok
open Go.RowKit Go.Proofs.Ytflfeimmdpjbeaa

set_option maxHeartbeats 1600000 in
theorem law_scans (s : ByteArray) (hs : s.size ≤ maxLen) (w : World) :
    Calls Try.prog 3 #[.string s] w fun e w' => e = .returned (.bool true) ∧ Below w.heap.size w w' := by
  unfold maxLen at hs
  by_cases hbig : 3000 < (s.size : Int) ∧ (s.size : Int) ≤ 40000
  · obtain ⟨h1, h2⟩ := hbig
    go_enter Try.func3, Try.ntmps3
    go_wp2_with (go_at_call 15; refine (awake_any _).mono ?_; rintro e w' ⟨rfl, hb⟩)
    go_ret
    exact ⟨rfl, hb⟩
  · have hd : (s.size : Int) ≤ 3000 ∨ 40000 < (s.size : Int) := by omega
    clear hbig
    rcases hd with hd | hd
    all_goals
      go_enter Try.func3, Try.ntmps3
      go_wp2_with fail
      refine (scan_good s _).mono ?_
      rintro e w1 ⟨A1, c1, ts, a1, er1, rfl, hi1, hl1, own1, hb1⟩
      have Own1 := Lib.hid own1
      have Hi1 := Lib.hid hi1
      clear own1 hi1
      go_wp2_with fail
      refine (rscan_good s _).mono ?_
      rintro e w2 ⟨A2, c2, ts2, a2, er2, rfl, hi2, hl2, own2, hb2⟩
      obtain ⟨rfl, rfl, rfl⟩ := Hi1.out.same hi2
      have Own2 := Lib.hid own2
      clear own2 hi2
      have R1 : Hid (Rd w2 w2.heap.size 2 A1 ts.length (cellsOf s ts)) := ((Rd.own Own1.out).below hb2).more hb2.size
      have R2 : Hid (Rd w2 w2.heap.size 2 A2 ts.length (cellsOf s ts)) := Rd.own Own2.out
      go_wp2_with fail
      refine (eqTok_same A1 A2 ts.length c1 c2 _ _ (ts.map (tk s)) _ (by omega) (by rw [← cells_tok]; exact R1.out) (by rw [← cells_tok]; exact R2.out)).mono ?_
      rintro e w' ⟨rfl, q, rfl⟩
      go_wp2_with fail
      refine (texts_any A1 ts.length c1 (ts.map (intTok s)) _ (by omega) (by rw [← cells_int]; exact R1.out)).mono ?_
      rintro e w3 ⟨v3, rfl, own3, hb3⟩
      obtain ⟨A3, c3, rfl⟩ := own_slice own3
      have Own3 := Lib.hid own3
      clear own3
      have hb3' : Below w2.heap.size w2 w3 := (below_drewN (Below.refl _ w2) q).trans hb3
      clear hb3
      go_wp2_with fail
      refine (rtexts_any A2 ts.length c2 (ts.map (intTok s)) _ (by omega) (by rw [← cells_int]; exact (R2.out.below hb3').more hb3'.size)).mono ?_
      rintro e w4 ⟨v4, rfl, own4, hb4⟩
      obtain ⟨A4, c4, rfl⟩ := own_slice own4
      have Own4 := Lib.hid own4
      clear own4
      go_wp2_with fail
      refine (eqStr_same A3 A4 ts.length c3 c4 _ _ ((ts.map (intTok s)).map (·.1)) _ (by omega) (by rw [← txt_map]; exact (Rd.own Own3.out).below hb4) (by rw [← txt_map]; exact Rd.own Own4.out)).mono ?_
      rintro e w' ⟨rfl, q4, rfl⟩
      go_wp2_with fail
      refine (awake_any _).mono ?_
      rintro e w5 ⟨rfl, hb5⟩
      go_wp2
      go_ret
      have b2 : Below w.heap.size w w2 := hb1.trans (hb2.mono hb1.size)
      have b3 := b2.trans (hb3'.mono b2.size)
      have b4 := b3.trans (hb4.mono b3.size)
      exact ⟨rfl, (below_drewN b4 q4).trans (hb5.mono b4.size)⟩
end Go.Proofs.Ytflfeimmdpjbeaa.Tok
