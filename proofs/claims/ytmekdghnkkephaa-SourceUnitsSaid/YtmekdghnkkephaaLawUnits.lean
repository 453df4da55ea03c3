/- The law SourceUnits: every way through it returns true. -/
import Derived.Test.YtmekdghnkkephaaUnit
import Derived.Test.YtmekdghnkkephaaUnitsRef
import Derived.Test.YtmekdghnkkephaaUnitTextsRef
namespace Go.Proofs.Ytmekdghnkkephaa.Tok
open Go.RowKit Go.Proofs.Ytmekdghnkkephaa

theorem locV_form (fs : List ByteArray) (ws : List (ByteArray × Int × Int)) (i : Int) : ∃ p q r, locV fs ws i = .tuple #[.agg #[.string p, .int .i64 q], .int .i64 r] := by
  unfold locV
  split
  · unfold locT
    split
    · exact ⟨_, _, _, rfl⟩
    · exact ⟨_, _, _, rfl⟩
  · exact ⟨_, _, _, rfl⟩
theorem sizeUS : (Try.prog.info? 46).map (·.size) = some 3 := by kernel_rfl

set_option maxHeartbeats 3200000 in
set_option maxRecDepth 8000 in
theorem law_units (F A : Option Addr) (nf cf n c : Nat) (fs : List ByteArray) (ts : List (ByteArray × Int × Int)) (i : Int) (w : World) (hm : HasMax w) (hnf : nf ≤ maxLen) (hn : n ≤ maxLen)
    (hF : Rd w w.heap.size 1 F nf (fs.map Value.string)) (hW : Rd w w.heap.size 3 A n (ts.flatMap wordI)) :
    Calls Try.prog 5 #[.slice F nf cf, .slice A n c, .int .i64 i] w fun e w' => e = .returned (.bool true) ∧ Below w.heap.size w w' := by
  unfold maxLen at hn hnf
  have HF := Lib.hid hF
  have HW := Lib.hid hW
  have HM := Lib.hid hm
  clear hF hW hm
  by_cases h1 : 100 < (nf : Int)
  · go_enter Try.func5, Try.ntmps5
    go_wp2_with (go_at_call 9; refine (awake2_any _ HM.out).mono ?_; rintro e w' ⟨rfl, hb⟩)
    go_ret
    exact ⟨rfl, hb⟩
  · by_cases h2 : 100 < (n : Int)
    · go_enter Try.func5, Try.ntmps5
      go_wp2_with (go_at_call 9; refine (awake2_any _ HM.out).mono ?_; rintro e w' ⟨rfl, hb⟩)
      go_ret
      exact ⟨rfl, hb⟩
    · obtain ⟨p, q, r, hloc⟩ := locV_form fs ts i
      have Hloc := Lib.hid hloc
      clear hloc
      go_enter Try.func5, Try.ntmps5
      go_wp2_with fail
      obtain ⟨w0, hw0⟩ : ∃ w0, w.alloc (.cells #[.slice F nf cf, .slice A n c, .slice none 0 0] 46) = w0 := ⟨_, rfl⟩
      rw [hw0]
      have hs0 : w0.heap.size = w.heap.size + 1 := by rw [← hw0]; simp
      have hu0 : w0.heap[w.heap.size]? = some (.cells #[.slice F nf cf, .slice A n c, .slice none 0 0] 46 (0, 0)) := by rw [← hw0]; exact heap_alloc_new _ _
      have hb0 : Below w.heap.size w w0 := by rw [← hw0]; exact (Below.refl _ _).alloc (Nat.le_refl _) _
      have Hu0 := Lib.hid hu0
      have Hs0 := Lib.hid hs0
      clear hw0 hu0 hs0
      refine (locate_any F A none nf n 0 cf c 0 fs ts i _ (by omega) (by omega) ((HF.out.below hb0).more hb0.size) ((HW.out.below hb0).more hb0.size)).mono ?_
      rintro e w1 ⟨rfl, hb1⟩
      rw [Hloc.out]
      have b1 := hb0.trans (hb1.mono hb0.size)
      have hu1 : Hid (∀ o, (w1.alloc o).heap[w.heap.size]? = some (.cells #[.slice F nf cf, .slice A n c, .slice none 0 0] 46 (0, 0))) := fun o => by
        have := hb1.size
        have := Hs0.out
        rw [Below.heap_alloc _ _ _ (by omega), hb1.block _ (by omega)]
        exact Hu0.out
      have hba1 : Hid (∀ o, Below w.heap.size w (w1.alloc o)) := fun o => b1.alloc b1.size _
      go_wp2_with (first
        | (refine wpList_load_row rfl 46 (.tmp 7) rfl w.heap.size rfl 46 #[.slice F nf cf, .slice A n c, .slice none 0 0] (0, 0) _ (hu1.out _) Try.underlying46 rfl sizeUS ?_)
        | (go_at_call 19; refine (unit_any F A nf cf n c ts _ (by omega) ((HW.out.below (hba1.out _)).more (hba1.out _).size)).mono ?_; rintro e w2 ⟨B, d, rfl, hR, hb2⟩))
      have b2 := (hba1.out _).trans (hb2.mono (hba1.out _).size)
      have hs1 : w1.heap.size < w2.heap.size := by have := hb2.size; simp at this; omega
      have hl2 : w2.heap[w1.heap.size]? = some (.cells #[.string p, .int .i64 q] 48 (0, 0)) := by
        rw [hb2.block _ (by simp)]
        exact heap_alloc_new _ _
      have hu2 : w2.heap[w.heap.size]? = some (.cells #[.slice F nf cf, .slice A n c, .slice none 0 0] 46 (0, 0)) := by
        have := (hba1.out (.cells #[.string p, .int .i64 q] 48)).size
        have := hb1.size
        have := Hs0.out
        rw [hb2.block _ (by simp; omega)]
        exact hu1.out _
      have Hl2 := Lib.hid hl2
      have Hu2 := Lib.hid hu2
      have HR := Lib.hid hR
      clear hl2 hu2 hR
      refine (rlocate_any F B none nf n 0 cf d 0 fs ts i _ (by omega) (by omega) ((HF.out.below b2).more b2.size) HR.out).mono ?_
      rintro e w3 ⟨rfl, hb3⟩
      rw [Hloc.out]
      have b3 := b2.trans (hb3.mono b2.size)
      go_wp2_with fail
      obtain ⟨w4, hw4⟩ : ∃ w4, w3.alloc (.cells #[.string p, .int .i64 q] 54) = w4 := ⟨_, rfl⟩
      rw [hw4]
      have hs4 : w4.heap.size = w3.heap.size + 1 := by rw [← hw4]; simp
      have hk4 : ∀ k, k < w2.heap.size → w4.heap[k]? = w2.heap[k]? := fun k hk => by
        have := hb3.size
        rw [← hw4, Below.heap_alloc _ _ _ (by omega), hb3.block _ hk]
      have b4 : Below w.heap.size w w4 := by rw [← hw4]; exact b3.alloc b3.size _
      have hsw : w.heap.size < w2.heap.size := by have := hb1.size; have := Hs0.out; omega
      have Hl4 := Lib.hid ((hk4 _ hs1).trans Hl2.out)
      have Hm4 : Hid (w4.heap[w3.heap.size]? = some (.cells #[.string p, .int .i64 q] 54 (0, 0))) := by rw [← hw4]; exact heap_alloc_new _ _
      have Hu4 : Hid (∀ wx, Below w4.heap.size w4 wx → wx.heap[w.heap.size]? = some (.cells #[.slice F nf cf, .slice A n c, .slice none 0 0] 46 (0, 0))) := fun wx hx => by
        rw [hx.block _ (by have := hb3.size; omega), hk4 _ hsw]
        exact Hu2.out
      have hmap : Hid ((ts.map (·.1)).map Value.string = ts.map wtx) := by show _ = _; simp [wtx]
      clear hw4 hs4 hk4 hs1 hsw hu1 hba1
      have Hc4 : Hid (∀ wx, Below w4.heap.size w4 wx → wx.cell? ⟨w.heap.size, 0, none⟩ = some (.slice F nf cf) ∧ wx.cell? ⟨w.heap.size, 1, none⟩ = some (.slice A n c) ∧ wx.cell? ⟨w.heap.size, 2, none⟩ = some (.slice none 0 0)) := fun wx hx =>
        ⟨by rw [cell_of_row _ _ _ _ _ _ (Hu4.out _ hx)]; rfl, by rw [cell_of_row _ _ _ _ _ _ (Hu4.out _ hx)]; rfl, by rw [cell_of_row _ _ _ _ _ _ (Hu4.out _ hx)]; rfl⟩
      have k80 : w4.cell? ⟨w1.heap.size, 0, none⟩ = some (.string p) := by rw [cell_of_row _ _ _ _ _ _ Hl4.out]; rfl
      have k81 : w4.cell? ⟨w1.heap.size, 1, none⟩ = some (.int .i64 q) := by rw [cell_of_row _ _ _ _ _ _ Hl4.out]; rfl
      have k90 : w4.cell? ⟨w3.heap.size, 0, none⟩ = some (.string p) := by rw [cell_of_row _ _ _ _ _ _ Hm4.out]; rfl
      have k91 : w4.cell? ⟨w3.heap.size, 1, none⟩ = some (.int .i64 q) := by rw [cell_of_row _ _ _ _ _ _ Hm4.out]; rfl
      obtain ⟨k70, k71, k72⟩ := Hc4.out _ (Below.refl _ _)
      clear Hl4 Hm4 Hu4 Hl2 Hu2
      go_region_with (first
        | (go_at_call 23; refine (utexts_any F A none nf n 0 cf c 0 ts w4.drew (by omega) ((HW.out.below b4.drew).more b4.size)).mono ?_; rintro e w5 ⟨v5, rfl, own5, hb5⟩; obtain ⟨A5, c5, rfl⟩ := own_slice own5; obtain ⟨k50, k51, k52⟩ := Hc4.out _ ((Below.refl _ _).drew.trans hb5); have b5 := b4.drew.trans (hb5.mono b4.size))
        | (go_at_call 19; refine (unit_any F A nf cf n c ts _ (by omega) ((HW.out.below b5).more b5.size)).mono ?_; rintro e w6 ⟨B6, d6, rfl, hR6, hb6⟩; have b6 := b5.trans (hb6.mono b5.size))
        | (go_at_call 24; refine (rutexts_any F B6 none nf n 0 cf d6 0 ts _ (by omega) hR6).mono ?_; rintro e w7 ⟨v7, rfl, own7, hb7⟩; obtain ⟨A7, c7, rfl⟩ := own_slice own7; have b7 := b6.trans (hb7.mono b6.size))
        | (go_at_call 22; refine (eqStr_same A5 A7 n c5 c7 _ _ (ts.map (·.1)) _ (by omega) (by rw [hmap.out]; exact ((Rd.own own5).below hb6).below (hb7.mono hb6.size)) (by rw [hmap.out]; exact Rd.own own7)).mono ?_; rintro e w' ⟨rfl, q8, rfl⟩; have b8 := below_drewN b7 q8)
        | (go_at_call 9; refine (awake2_any _ (HM.out.below HM.out.lt b8)).mono ?_; rintro e w9 ⟨rfl, hb9⟩))
      all_goals (go_wp2_with fail; go_ret; exact ⟨rfl, b8.trans (hb9.mono b8.size)⟩)
end Go.Proofs.Ytmekdghnkkephaa.Tok
