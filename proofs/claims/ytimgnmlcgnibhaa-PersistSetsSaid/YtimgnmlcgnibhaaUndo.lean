/- Undo: the last unions are taken back. -/
import Derived.Test.YtimgnmlcgnibhaaUndoMath
import Derived.Test.YtimgnmlcgnibhaaAppend
import Derived.Test.YtimgnmlcgnibhaaFew
namespace Go.Proofs.Ytimgnmlcgnibhaa.Tok
open Go.RowKit Go.Proofs.Ytimgnmlcgnibhaa

theorem UniMid.same {base g eb n : Nat} {E : List El} {U : List (Nat × Nat)} {w wx wy : World} (h : UniMid base g eb n E U w wx) (hb : Below wx.heap.size wx wy) (hz : base ≤ wx.heap.size) : UniMid base g eb n E U w wy := by
  obtain ⟨A, c, h1, h2, h3, h4⟩ := h
  exact ⟨A, c, (hb.block g (Array.getElem?_eq_some_iff.1 h1).1).trans h1, h2.keep (hb.block eb h2.lt), own_below h3 hb, h4.step hb hz⟩
theorem UniMid.parts {base g eb n : Nat} {E : List El} {U : List (Nat × Nat)} {w wx : World} (h : UniMid base g eb n E U w wx) : ∃ A c, wx.cell? ⟨g, 0, none⟩ = some (.slice (some ⟨eb, 0, none⟩) n n) ∧ wx.cell? ⟨g, 1, none⟩ = some (.slice A U.length c) ∧ wx.ownsRow base 155 2 (.slice A U.length c) U.length (flatU U) ∧ g < wx.heap.size ∧ eb < wx.heap.size ∧ wx.frozen? ⟨g, 1, none⟩ = false := by
  obtain ⟨A, c, h1, h2, h3, h4⟩ := h
  exact ⟨A, c, (cell_of_row _ _ 0 _ _ _ h1).trans rfl, (cell_of_row _ _ 1 _ _ _ h1).trans rfl, h3, (Array.getElem?_eq_some_iff.1 h1).1, h2.lt, frozen_of_row _ _ _ _ _ h1⟩

theorem flatU_take : ∀ (U : List (Nat × Nat)) (j : Nat), flatU (U.take j) = (flatU U).take (j * 2)
  | [], j => by simp [flatU]
  | x :: U, 0 => by simp [flatU]
  | x :: U, j + 1 => by
    have ih := flatU_take U j
    unfold flatU at ih ⊢
    have e : (unV x).take ((j + 1) * 2) = unV x := List.take_of_length_le (by show 2 ≤ _; omega)
    have e2 : (j + 1) * 2 - (unV x).length = j * 2 := by show _ - 2 = _; omega
    rw [List.take_succ_cons, List.flatMap_cons, List.flatMap_cons, ih, List.take_append, e, e2]

set_option maxHeartbeats 3200000 in
set_option maxRecDepth 8000 in
/-- Behind Undo to the mark of a state, that state is there again. -/
theorem undoSets_any {base : Nat} (g n k : Nat) (E0 E : List El) (U0 U : List (Nat × Nat)) (w : World) (h : IsSets base w g E U) (hn : n ≤ 10000) (hU : U.length ≤ 10000) (past : Past n E U) (ch : Chain E0 U0 E U) (hkU : U0.length = k) :
    Calls Try.prog 42 #[.pointer (some ⟨g, 0, none⟩), .int .i64 (k : Nat)] w fun e w' => e = .returned (.int .i64 0) ∧ IsSets base w' g E0 U0 ∧ BK base w w' := by
  have hk : k ≤ U.length := by have := ch.len; omega
  have Ch0 := Lib.hid ch
  have HkU := Lib.hid hkU
  clear ch hkU
  obtain ⟨eb, A, c, hbg, hbe, hge, hrow, c0, c1, herow, hown⟩ := h.parts
  have hEn := past.len
  have HM0 : Hid (UniMid base g eb n E U w w) := ⟨A, c, by rw [← hEn]; exact hrow, herow, hown, BK.refl _ _⟩
  have Past0 := Lib.hid past
  have g0 : decide ((k : Int) < 0) = false := decide_eq_false (by omega)
  have g1 : decide ((U.length : Int) < (k : Int)) = false := decide_eq_false (by omega)
  have g2 : decide (U.length < k) = false := decide_eq_false (by omega)
  have hwu : IntKind.i64.wrap ((U.length : Int) - 1) = (U.length : Int) - 1 := IntWalk.i64_in _ (by omega)
  clear hrow herow hown past h hEn c0
  go_enter Try.func42, Try.ntmps42
  go_wp2
  clear g0 g1 g2 hwu c1
  go_loopw [5] (fun i wr => ∃ (j : Nat) (Ej : List El), k ≤ j ∧ j ≤ U.length ∧ i = .int .i64 ((j : Int) - 1) ∧ Hid (Past n Ej (U.take j)) ∧ Hid (Chain E0 U0 Ej (U.take j)) ∧ Hid (UniMid base g eb n Ej U w wr)) (fun i _ => (intOf i + 1).toNat)
  case atStart => exact ⟨U.length, E, hk, Nat.le_refl _, rfl, by show Past _ _ _; rw [List.take_length]; exact Past0.out, by show Chain _ _ _ _; rw [List.take_length]; exact Ch0.out, HM0.out⟩
  case round =>
    clear HM0 Past0 Ch0
    obtain ⟨j, Ej, hkj, hj, rfl, hp, hch, hm⟩ := hrel
    obtain ⟨A, c, c0, c1, hown, hgl, hel, hf1⟩ := hm.out.parts
    have Hown := Lib.hid hown
    by_cases hlt : k < j
    · obtain ⟨p, rfl⟩ : ∃ p, j = p + 1 := ⟨j - 1, by omega⟩
      have hpl : p < U.length := by omega
      obtain ⟨gu, rfl, hgu1, hgu2⟩ := own_at hown (by omega)
      have x0 : wr.cell? ⟨gu, p * 2, none⟩ = some (.int .i64 (U[p].1 : Nat)) := (hown.cellAt (p * 2) (by omega)).trans ((flatN 2 unV (fun _ => rfl) U p 0 hpl (by omega)).trans rfl)
      have x1 : wr.cell? ⟨gu, p * 2 + 1, none⟩ = some (.int .i64 (U[p].2 : Nat)) := (hown.cellAt (p * 2 + 1) (by omega)).trans ((flatN 2 unV (fun _ => rfl) U p 1 hpl (by omega)).trans rfl)
      have hsn : U.take (p + 1) = U.take p ++ [(U[p].1, U[p].2)] := List.take_succ_eq_append_getElem hpl
      obtain ⟨y, hy⟩ : ∃ y, y = U[p] := ⟨_, rfl⟩
      rw [← hy] at x0 x1 hsn
      obtain ⟨l, lx⟩ := y
      simp only at x0 x1 hsn
      clear hy hown
      obtain ⟨u, hu, hl, hul, hel1, hback⟩ := hp.out.back _ _ _ hsn
      have hEl : Ej.length = n := hp.out.len
      have hchain := hch.out.back _ _ _ hsn (by have := HkU.out; rw [List.length_take]; omega)
      clear hsn
      have hle : l < Ej.length := by omega
      have hue : u < Ej.length := by omega
      rw [List.getElem?_eq_getElem hle] at hel1
      obtain ⟨⟨pl, sl, ll⟩, hEL⟩ : ∃ e, e = Ej[l] := ⟨_, rfl⟩
      obtain ⟨⟨pu, su, lu⟩, hEU⟩ : ∃ e, e = Ej[u] := ⟨_, rfl⟩
      have hplu : pl = u := by rw [← hEL] at hel1; simpa using hel1
      subst hplu
      have d0 := hm.out.row.cell hle 0 (by omega)
      have f0 := hm.out.row.frozen (l * 3)
      rw [← hEL] at d0
      simp only [elV, Nat.add_zero, List.getElem?_cons_zero] at d0
      have Hback : Hid (Past n ((Ej.set l (l, sl, ll)).set pl (pu, su - sl, lx)) (U.take p) ∧ Chain E0 U0 ((Ej.set l (l, sl, ll)).set pl (pu, su - sl, lx)) (U.take p)) := by
        show Past _ _ _ ∧ Chain _ _ _ _
        have : undo1 Ej l lx = (Ej.set l (l, sl, ll)).set pl (pu, su - sl, lx) := by
          unfold undo1
          rw [List.getElem?_eq_getElem hle, ← hEL]
          simp only
          rw [List.getElem?_eq_getElem hue, ← hEU]
        rw [← this]
        exact ⟨hback, hchain⟩
      clear hback hchain hel1
      have hwp : ((p : Nat) + 1 : Int) - 1 = (p : Int) := by omega
      have t1 : decide ((k : Int) ≤ (p : Int)) = true := decide_eq_true (by omega)
      have t2 : decide (k ≤ p) = true := decide_eq_true (by omega)
      have hw9 : ((p + 1 : Nat) : Int) - 1 = (p : Int) := by omega
      rw [hw9]
      have hkp : k ≤ p := by omega
      clear hwp hw9 hlt hkj hj
      have hl0 : l < n := hl
      have hlI : (l : Int) < (n : Int) := by omega
      go_wp2
      go_quiet (fail)
      go_wp2
      go_quiet (fail)
      go_wp2
      generalize hw2 : World.setCell _ _ _ = w2
      have hww : Hid (∃ wq, Below wr.heap.size wr wq ∧ wq.heap[wr.heap.size]? = some (.cells #[.int .i64 (l : Nat), .int .i64 (lx : Nat)] 155 (0, 0)) ∧ w2 = wq.setCell ⟨eb, l * 3, none⟩ (.int .i64 (l : Nat))) := by
        subst hw2
        refine ⟨_, ?_, ?_, rfl⟩
        · exact below_drewN ((Below.refl _ _).alloc (Nat.le_refl _) _) _
        · exact heap_alloc_new wr _
      clear hw2
      obtain ⟨wq, bq, rq, rfl⟩ := hww.out
      have M2 : Hid (UniMid base g eb n (Ej.set l (l, sl, ll)) U w (wq.setCell ⟨eb, l * 3, none⟩ (.int .i64 (l : Nat)))) := (hm.out.same bq (by omega)).el hbe hge ((flatE_set0 l Ej l hle).trans (by rw [← hEL]))
      have hob : eb ≠ wr.heap.size := by omega
      have R2 : Hid ((wq.setCell ⟨eb, l * 3, none⟩ (.int .i64 (l : Nat))).heap[wr.heap.size]? = some (.cells #[.int .i64 (l : Nat), .int .i64 (lx : Nat)] 155 (0, 0))) := (heap_setCell_other _ _ _ _ (by show wr.heap.size ≠ eb; omega)).trans rq
      generalize World.setCell wq _ _ = w2 at M2 R2 ⊢
      clear hww bq rq d0 f0 x0 x1 c0 c1 hf1
      have hu1 : pl < (Ej.set l (l, sl, ll)).length := by simpa using hue
      have hl1 : l < (Ej.set l (l, sl, ll)).length := by simpa using hle
      have g1 := M2.out.row.cell hu1 1 (by omega)
      have g2 := M2.out.row.cell hl1 1 (by omega)
      rw [List.getElem_set_ne (by omega), ← hEU] at g1
      rw [List.getElem_set_self] at g2
      simp only [elV, List.getElem?_cons_zero, List.getElem?_cons_succ] at g1 g2
      have hok := hp.out.ok hn
      have hup := hok.up l hle (by rw [← hEL]; exact hul) (by rw [← hEL]; exact hue)
      have htu := hok.top pl hue
      rw [← hEU] at htu
      simp only [← hEL] at hup
      rw [← hEU] at hup
      simp only at hup htu
      have hwr : IntKind.i64.wrap ((su : Int) - (sl : Int)) = ((su - sl : Nat) : Int) := (IntWalk.i64_in _ (by omega)).trans (by omega)
      clear hok
      go_still_tail 11, (by kernel_rfl)
      change wpList _ _ _ _ _ w2.drew
      have hg1 : w2.drew.cell? ⟨eb, pl * 3 + 1, none⟩ = some (.int .i64 (su : Nat)) := g1
      have hf1 : w2.drew.frozen? ⟨eb, pl * 3 + 1, none⟩ = false := M2.out.row.frozen _
      have g3 := M2.out.row.cell hu1 2 (by omega)
      rw [List.getElem_set_ne (by omega), ← hEU] at g3
      simp only [elV, List.getElem?_cons_zero, List.getElem?_cons_succ] at g3
      have hg2 : w2.drew.cell? ⟨eb, pl * 3 + 2, none⟩ = some (.int .i64 (lu : Nat)) := g3
      have hf2 : w2.drew.frozen? ⟨eb, pl * 3 + 2, none⟩ = false := M2.out.row.frozen _
      have ht6 : w2.drew.cell? ⟨wr.heap.size, 1, none⟩ = some (.int .i64 (lx : Nat)) := (cell_of_row _ _ 1 _ _ _ R2.out).trans rfl
      have M3 := Lib.hid M2.out.drew
      generalize w2.drew = w3 at hg1 hf1 hg2 hf2 ht6 M3 ⊢
      have hob' : wr.heap.size ≠ eb := by omega
      have hwl : IntKind.i64.wrap ((p : Int) - 1) = (p : Int) - 1 := IntWalk.i64_in _ (by omega)
      have HEU := Lib.hid hEU
      have HEL := Lib.hid hEL
      have M5 : Hid (UniMid base g eb n ((Ej.set l (l, sl, ll)).set pl (pu, su - sl, lx)) U w ((w3.setCell ⟨eb, pl * 3 + 1, none⟩ (.int .i64 ((su - sl : Nat) : Int))).setCell ⟨eb, pl * 3 + 2, none⟩ (.int .i64 (lx : Nat)))) := by
        have M4 := M3.out.el hbe hge ((flatE_set1 (su - sl) _ pl hu1).trans (by rw [List.getElem_set_ne (by omega), ← HEU.out]))
        exact M4.el hbe hge ((flatE_set2 lx _ pl (by simpa using hue)).trans (by simp))
      clear g1 g2 g3 hwr M2 M3 R2 hEU hEL hup htu hp hm Hown
      go_wp2
      go_light
      exact ⟨⟨p, _, by omega, by omega, rfl, Hback.out.1, Hback.out.2, M5.out⟩, by simp [intOf] <;> omega⟩
    · obtain rfl : j = k := by omega
      have t1 : decide ((j : Int) ≤ (j : Int) - 1) = false := decide_eq_false (by omega)
      have hEn : Ej.length = n := hp.out.len
      obtain ⟨hE0, hU0'⟩ := hch.out.same (by have := HkU.out; rw [List.length_take]; omega)
      have HEe := Lib.hid hE0
      have HUe := Lib.hid hU0'
      clear hE0 hU0'
      have HF : Hid (∀ (A' : Option Addr) (c' : Nat), wr.ownsRow base 155 2 (.slice A' j c') j (flatU (U.take j)) → IsSets base (wr.setCell ⟨g, 1, none⟩ (.slice A' j c')) g Ej (U.take j) ∧ BK base w (wr.setCell ⟨g, 1, none⟩ (.slice A' j c'))) := fun A' c' ho => by
        obtain ⟨A2, c2, r1, r2, r3, r4⟩ := hm.out
        have hl : (U.take j).length = j := by rw [List.length_take]; omega
        refine ⟨⟨eb, A', c', hbg, hbe, ?_, r2.keep (heap_setCell_other _ _ _ _ (by show eb ≠ g; omega)), ?_⟩, r4.setCell (p := ⟨g, 1, none⟩) hbg r1 (by decide) _⟩
        · rw [hl, hEn]; exact heap_setCell_same wr g 1 _ _ _ r1
        · rw [hl]; exact own_setCell_other ho (own_apartS ho r1 (by decide)) _
      rcases hown.2 with ⟨hA, hU0⟩ | ⟨gu, cap, cur, hA, q1, q2, q3, q4, q5, q6⟩
      · have hj0 : j = 0 := by omega
        injection hA with hA1 hA2 hA3
        subst hA1 hA3
        have ho : wr.ownsRow base 155 2 (.slice none j 0) j (flatU (U.take j)) := by subst hj0; exact ⟨by simp [flatU], .inl ⟨rfl, rfl⟩⟩
        have HO := Lib.hid ho
        have HJ := Lib.hid hj0
        have hjz : (0 : Int) ≤ (j : Int) ∧ (j : Int) ≤ ((0 : Nat) : Int) := by omega
        have hjz2 : j ≤ 0 := by omega
        clear hown ho hj0 hU0
        go_wp2
        go_ret
        refine ⟨rfl, ?_⟩
        rw [← HEe.out, ← HUe.out]
        have := HF.out _ _ HO.out
        rwa [show (Value.slice none j 0 : Value) = .slice none 0 0 by rw [HJ.out]] at this
      · injection hA with hA1 hA2 hA3
        subst hA1 hA3
        have ho : wr.ownsRow base 155 2 (.slice (some ⟨gu, 0, none⟩) j c) j (flatU (U.take j)) := by
          have hfl : flatU (U.take j) = (flatU U).take (j * 2) := flatU_take U j
          refine ⟨by rw [hfl, List.length_take, hown.1]; omega, .inr ⟨gu, c, cur, rfl, q1, q2, by omega, q4, q5, ?_⟩⟩
          rw [hfl, ← q6, List.take_take]
          congr 1
          omega
        have HO := Lib.hid ho
        have hjz : (0 : Int) ≤ (j : Int) ∧ (j : Int) ≤ (c : Int) := by omega
        have hjz2 : j ≤ c := by omega
        clear hown ho q1 q2 q4 q5 q6
        go_wp2
        go_ret
        refine ⟨rfl, ?_⟩
        rw [← HEe.out, ← HUe.out]
        exact HF.out _ _ HO.out
end Go.Proofs.Ytimgnmlcgnibhaa.Tok
