/- The law TokenWeaves: every way through it returns true. -/
import Derived.Test.YtflfeimmdpjbeaaGaps
import Derived.Test.YtflfeimmdpjbeaaRefWeave
import Derived.Test.YtflfeimmdpjbeaaWeaveWalks
import Derived.Test.YtflfeimmdpjbeaaJoin
import Derived.Test.YtflfeimmdpjbeaaOpenIn
import Derived.Test.YtflfeimmdpjbeaaAwake
namespace Go.Proofs.Ytflfeimmdpjbeaa.Tok
open Go.RowKit Go.Proofs.Ytflfeimmdpjbeaa

set_option maxHeartbeats 3200000 in
theorem law_weaves (s : ByteArray) (A A' : Option Addr) (n c m d : Nat) (gs ws : List ByteArray) (w : World) (hG : Woven w A n c gs) (hW : Woven w A' m d ws) (hn : n ≤ maxLen) (hm : m ≤ maxLen) :
    Calls Try.prog 6 #[.string s, .slice A n c, .slice A' m d] w fun e w' => e = .returned (.bool true) ∧ Below w.heap.size w w' := by
  unfold maxLen at hn hm
  have HG := Lib.hid hG
  have HW := Lib.hid hW
  clear hG hW
  by_cases h1 : 2000 < (s.size : Int)
  · go_enter Try.func6, Try.ntmps6
    go_wp2_with (go_at_call 15; refine (awake_any _).mono ?_; rintro e w' ⟨rfl, hb⟩)
    go_ret
    exact ⟨rfl, hb⟩
  · by_cases h2 : 100 < (n : Int)
    · go_enter Try.func6, Try.ntmps6
      go_wp2_with (go_at_call 15; refine (awake_any _).mono ?_; rintro e w' ⟨rfl, hb⟩)
      go_ret
      exact ⟨rfl, hb⟩
    · by_cases h3 : 100 < (m : Int)
      · go_enter Try.func6, Try.ntmps6
        go_wp2_with (go_at_call 15; refine (awake_any _).mono ?_; rintro e w' ⟨rfl, hb⟩)
        go_ret
        exact ⟨rfl, hb⟩
      · have hG1 := HG.out.sum
        have hW1 := HW.out.sum
        by_cases h4 : 3000 < sumSz gs
        · go_enter Try.func6, Try.ntmps6
          go_wp2_with fail
          refine (join_any A n c gs _ HG.out.len (by omega) HG.out.cap (by omega) HG.out.rd).mono ?_
          rintro e w1 ⟨o, rfl, ho, hb1⟩
          have ho' : 3000 < (o.size : Int) := by omega
          clear ho
          go_wp2_with (go_at_call 15; refine (awake_any _).mono ?_; rintro e w' ⟨rfl, hb⟩)
          go_ret
          exact ⟨rfl, hb1.trans (hb.mono hb1.size)⟩
        · go_enter Try.func6, Try.ntmps6
          go_wp2_with fail
          refine (join_any A n c gs _ HG.out.len (by omega) HG.out.cap (by omega) HG.out.rd).mono ?_
          rintro e w1 ⟨o, rfl, ho, hb1⟩
          have ho' : ¬ 3000 < (o.size : Int) := by omega
          clear ho
          go_wp2_with fail
          refine (join_any A' m d ws _ HW.out.len (by omega) HW.out.cap (by omega) ((HW.out.rd.below hb1).more hb1.size)).mono ?_
          rintro e w2 ⟨o2, rfl, ho2, hb2⟩
          have b2 := hb1.trans (hb2.mono hb1.size)
          by_cases h5 : 3000 < sumSz ws
          · have ho2' : 3000 < (o2.size : Int) := by omega
            clear ho2
            go_wp2_with (go_at_call 15; refine (awake_any _).mono ?_; rintro e w' ⟨rfl, hb⟩)
            go_ret
            exact ⟨rfl, b2.trans (hb.mono b2.size)⟩
          · have ho2' : ¬ 3000 < (o2.size : Int) := by omega
            clear ho2
            go_wp2_with fail
            refine (gaps_any s _).mono ?_
            rintro e w3 ⟨A3, c3, g3, ts3, a3, er3, rfl, hi3, hl3, hg3, own3, hb3⟩
            have Own3 := Lib.hid own3
            have Hi3 := Lib.hid hi3
            have Hg3 := Lib.hid hg3
            clear own3 hi3 hg3
            have b3 := b2.trans (hb3.mono b2.size)
            go_wp2_with fail
            refine (rgaps_any s _).mono ?_
            rintro e w4 ⟨A4, c4, g4, ts4, a4, er4, rfl, hi4, hl4, hg4, own4, hb4⟩
            obtain ⟨rfl, rfl, rfl⟩ := Hi3.out.same hi4
            obtain rfl : g4 = g3 := hg4.trans Hg3.out.symm
            have Own4 := Lib.hid own4
            clear own4 hi4 hg4
            have b4 := b3.trans (hb4.mono b3.size)
            have hgb : Hid (∀ g ∈ gs, g.size ≤ 3000) := fun g hg => by have := sum_mem hg; omega
            have hwb : Hid (∀ g ∈ ws, g.size ≤ 3000) := fun g hg => by have := sum_mem hg; omega
            go_wp2_with fail
            refine (weave_any A A' n m c d gs ws _ (by omega) (by omega) HG.out.len HW.out.len hgb.out hwb.out ((HG.out.rd.below b4).more b4.size) ((HW.out.rd.below b4).more b4.size)).mono ?_
            rintro e w5 ⟨rfl, hb5⟩
            have b5 := b4.trans (hb5.mono b4.size)
            obtain ⟨tx, htx⟩ : ∃ tx : ByteArray, tx = ⟨(weaveR gs ws).1.toArray⟩ := ⟨_, rfl⟩
            obtain ⟨er5, her5⟩ : ∃ er5 : Nat, er5 = (weaveR gs ws).2 := ⟨_, rfl⟩
            rw [← htx, ← her5]
            have Htx := Lib.hid htx
            have Her := Lib.hid her5
            clear htx her5
            go_wp2_with fail
            refine (rweave_any A A' n m c d _ _ gs ws _ (by omega) (by omega) HG.out.len HW.out.len hgb.out hwb.out ((HG.out.rd.below b5).more b5.size) ((HW.out.rd.below b5).more b5.size)).mono ?_
            rintro e w' ⟨rfl, rfl⟩
            rw [← Htx.out, ← Her.out]
            go_wp2_with fail
            have hl4' : g4.length ≤ 140737488355328 := by rw [Hg3.out]; split <;> (try rw [gapsOf_len]) <;> simp <;> omega
            refine (eqStr_same A3 A4 g4.length c3 c4 _ _ g4 _ hl4' (((Rd.own Own3.out).below hb4).below (hb5.mono hb4.size)) ((Rd.own Own4.out).below hb5)).mono ?_
            rintro e w' ⟨rfl, q, rfl⟩
            have b6 := below_drewN b5 q
            go_wp2_with fail
            refine (awake_any _).mono ?_
            rintro e w7 ⟨rfl, hb7⟩
            go_wp2
            go_ret
            exact ⟨rfl, b6.trans (hb7.mono b6.size)⟩
end Go.Proofs.Ytflfeimmdpjbeaa.Tok
