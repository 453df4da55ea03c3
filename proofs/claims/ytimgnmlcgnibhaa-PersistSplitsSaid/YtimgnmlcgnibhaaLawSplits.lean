/- The law of Split and Join: every way through it returns true. -/
import Derived.Test.YtimgnmlcgnibhaaLawDepth
import Derived.Test.YtimgnmlcgnibhaaEqEnt
import Derived.Test.YtimgnmlcgnibhaaGet
import Derived.Test.YtimgnmlcgnibhaaSplitMath
namespace Go.Proofs.Ytimgnmlcgnibhaa.Tok
open Go.RowKit Go.Proofs.Ytimgnmlcgnibhaa

/-- A list of entries that a call has made. -/
def OwE (w : World) (v : Value) (L : List (ByteArray × Int)) : Prop := ∃ b, w.ownsRow b 43 2 v L.length (L.flatMap enV)
theorem OwE.below {w w' : World} {v : Value} {L : List (ByteArray × Int)} (h : OwE w v L) (hb : Below w.heap.size w w') : OwE w' v L := by
  obtain ⟨b, h⟩ := h
  exact ⟨b, own_below h hb⟩
theorem entE (p : Option Addr) (t : TrS) (w : World) (L : List (ByteArray × Int)) (hI : Is Value.string 127 w p t) (hts : t.size ≤ 1000000) (hL : t.ents = L) :
    Calls Try.prog 20 #[.agg #[.pointer p]] w fun e w' => ∃ v, e = .returned v ∧ Hid (OwE w' v L) ∧ Below w.heap.size w w' := by
  subst hL
  refine (entries_any p t w hI hts).mono ?_
  rintro e w' ⟨v, h1, h2, h3⟩
  exact ⟨v, h1, ⟨_, h2.out⟩, h3⟩
set_option maxHeartbeats 3200000 in
set_option maxRecDepth 8000 in
theorem law_splits (A : Option Addr) (m hc : Nat) (os : List OpT) (key : ByteArray) (w : World) (hks : key.size ≤ maxLen) (hq : ∀ o ∈ os, OpOk o) (hh : Rd w w.heap.size 5 A m (os.flatMap opV)) :
    Calls Try.prog 5 #[.slice A m hc, .string key] w fun e w' => e = .returned (.bool true) ∧ Below w.heap.size w w' := by
  unfold maxLen at hks
  obtain ⟨i0, hi0, iz0, iz1, iz2⟩ := info_parts infoTree
  have hlen : os.length = m := by have := hh.len; rw [flatN_len 5 opV (fun _ => rfl)] at this; omega
  have Hlen := Lib.hid hlen
  have Hh := Lib.hid hh
  have Hq := Lib.hid hq
  clear hlen hq
  have HF := Lib.hid (few_any A m hc os w (fun _ => hh))
  clear hh
  obtain ⟨ks, hkz⟩ : ∃ ks, ks = key.size := ⟨_, rfl⟩
  go_enter Try.func5, Try.ntmps5
  go_wp2_with fail
  refine (HF.out).mono ?_
  rintro e w1 ⟨⟨b, rfl, hb120⟩, hb1⟩
  have Hb1 := Lib.hid hb1
  have hcase : b = false ∨ (b = true ∧ 20 < key.size) ∨ (b = true ∧ key.size ≤ 20) := by cases b <;> simp <;> omega
  rcases hcase with rfl | ⟨rfl, hk20⟩ | ⟨rfl, hk20⟩
  · clear hb1 hb120
    go_wp2_with fail
    refine (awake12_any w1).mono ?_
    rintro e w2 ⟨rfl, hb2⟩
    have Hb2 := Lib.hid (Hb1.out.trans (hb2.mono Hb1.out.size))
    clear hb2
    go_wp2
    go_ret
    exact ⟨rfl, Hb2.out⟩
  · have g1 : decide ((20 : Int) < (key.size : Int)) = true := decide_eq_true (by omega)
    have g2 : decide (20 < key.size) = true := decide_eq_true hk20
    clear hb1 hb120
    go_wp2_with fail
    refine (awake12_any w1).mono ?_
    rintro e w2 ⟨rfl, hb2⟩
    have Hb2 := Lib.hid (Hb1.out.trans (hb2.mono Hb1.out.size))
    clear hb2
    go_wp2
    go_ret
    exact ⟨rfl, Hb2.out⟩
  · have g1 : decide ((20 : Int) < (key.size : Int)) = false := decide_eq_false (by omega)
    have g2 : decide (20 < key.size) = false := decide_eq_false (by omega)
    have hm := hb120 rfl
    clear hb120 hb1
    have Hstart := Lib.hid (DepRel.start w os w1 Hb1.out Hb1.out.size)
    go_wp2
    go_loopw [5, 28] (fun v i wr => ∃ (k : Nat) (ps : List (Option Addr)) (ts : List TrS), k ≤ m ∧ i = .int .i64 k ∧ Hid (DepRel w os k v ps ts wr)) (fun _ i _ => m - (intOf i).toNat)
    case atStart => exact ⟨0, _, _, Nat.zero_le _, rfl, Hstart.out⟩
    case round =>
      clear Hstart g1 g2
      obtain ⟨k, ps, ts, hk, rfl, hrel⟩ := hrel
      obtain ⟨A3, c3, rfl⟩ := slice_of hrel.out.own
      by_cases hlt : k < m
      · obtain ⟨b, off, rfl, hbb, hcc⟩ := Hh.out.pos (by omega)
        have hk1 : k < os.length := by have := Hlen.out; omega
        have hcell0 := (hrel.out.bel.cell (p := ⟨b, off + k * 5, none⟩) hbb).trans (hcc (k * 5) _ ((flatN 5 opV (fun _ => rfl) os k 0 hk1 (by omega)).trans rfl))
        have hcell1 := (hrel.out.bel.cell (p := ⟨b, off + (k * 5 + 1), none⟩) hbb).trans (hcc (k * 5 + 1) _ ((flatN 5 opV (fun _ => rfl) os k 1 hk1 (by omega)).trans rfl))
        have hcell2 := (hrel.out.bel.cell (p := ⟨b, off + (k * 5 + 2), none⟩) hbb).trans (hcc (k * 5 + 2) _ ((flatN 5 opV (fun _ => rfl) os k 2 hk1 (by omega)).trans rfl))
        have hcell3 := (hrel.out.bel.cell (p := ⟨b, off + (k * 5 + 3), none⟩) hbb).trans (hcc (k * 5 + 3) _ ((flatN 5 opV (fun _ => rfl) os k 3 hk1 (by omega)).trans rfl))
        have hcell4 := (hrel.out.bel.cell (p := ⟨b, off + (k * 5 + 4), none⟩) hbb).trans (hcc (k * 5 + 4) _ ((flatN 5 opV (fun _ => rfl) os k 4 hk1 (by omega)).trans rfl))
        rw [← Nat.add_assoc] at hcell1 hcell2 hcell3 hcell4
        have Hfine := Lib.hid (hrel.out.step hk1)
        have hox := Hq.out _ (List.getElem_mem hk1)
        obtain ⟨x, hx⟩ : ∃ x, x = os[k] := ⟨_, rfl⟩
        rw [← hx] at hcell0 hcell1 hcell2 hcell3 hcell4 Hfine hox
        clear hx hcc
        have Hox := Lib.hid hox
        clear hox
        have HS : Hid (∀ o, Calls Try.prog 12 #[.slice A3 (k + 1) c3, .agg #[.int .u8 x.kind, .int .u8 x.tree, .int .u8 x.other, .string x.key, .int .i64 x.val]] (wr.alloc o) fun e w' => MakesT Value.string 127 (wr.alloc o) (stepV ts x) e w' ∧ Hid (Below wr.heap.size wr w')) := fun o => by
          have hb : Below wr.heap.size wr (wr.alloc o) := (Below.refl _ _).alloc (Nat.le_refl _) o
          refine (step_any A3 (k + 1) c3 ps ts x (wr.alloc o) (by omega) (by omega) (((Rd.own hrel.out.own).below hb).more hb.size) ⟨hrel.out.all.1, fun j p t hp ht => (hrel.out.all.2 j p t hp ht).below hb⟩ (hrel.out.sizes (by omega)) Hox.out.1 Hox.out.2.1 Hox.out.2.2).mono ?_
          rintro e w' ⟨r, h1, h2, h3⟩
          exact ⟨⟨r, h1, h2, h3⟩, hb.trans (h3.mono hb.size)⟩
        generalize stepV ts x = T at HS Hfine
        obtain ⟨xk, xt, xq, xs, xv⟩ := x
        simp only at hcell0 hcell1 hcell2 hcell3 hcell4 HS
        go_wp2_with fail
        refine (HS.out _).mono ?_
        rintro e w2 ⟨⟨r, rfl, hI, -⟩, hb2⟩
        have HI := Lib.hid hI
        have Hown := Lib.hid (own_below hrel.out.own hb2.out)
        have hbs : w.heap.size ≤ w2.heap.size := by have := hrel.out.bel.size; have := hb2.out.size; omega
        have hbs2 : Hid (∀ o, w.heap.size ≤ (w2.alloc o).heap.size) := fun o => by simp; omega
        have g63 : k + 1 + 1 ≤ maxLen := by simp only [maxLen]; omega
        have gby : (k + 1 + 1) * 8 ≤ 140737488355328 := by omega
        have Hhk := Lib.hid hk1
        have HP : Hid (∀ o v2 w6, (w2.alloc o).grownBy w6 (Value.slice A3 (k + 1) c3).ownBlock → w6.ownsRow w.heap.size 27 1 v2 (k + 1 + 1) (ps.map Value.pointer ++ [.pointer r]) → DepRel w os (k + 1) v2 (ps ++ [r]) (ts ++ [T]) w6) := fun o v2 w6 hg ho =>
          hrel.out.push Hhk.out (hb2.out.alloc hb2.out.size o) (HI.out.below ((Below.refl _ _).alloc (Nat.le_refl _) o)) Hfine.out hg ho
        clear hI hcell0 hcell1 hcell2 hcell3 hcell4 hk1 HS
        go_wp2_with (at_builtin; go_must (refine wpList_append_own _ rfl (.tmp 32) (.tmp 36) 28 rfl w.heap.size 27 i0 (.agg #[.pointer none]) 1 8 Try.underlying28 hi0 iz0 iz1 iz2 rfl (by decide) _ _ _ rfl (Hown.out.alloc _) ⟨w2.heap.size, 0, none⟩ 1 1 [.pointer r] rfl rfl (fun j u hu => ptr_new1 _ _ _ hu) (one_ptr1 _) g63 gby (hbs2.out _) ?_); intro v2 w6 hown3 hgrow3 _)
        go_light
        exact ⟨⟨k + 1, _, _, by omega, by go_num, HP.out _ _ _ hgrow3 hown3⟩, by simp [intOf]; omega⟩
      · obtain rfl : k = m := by omega
        obtain ⟨hl1, hl2⟩ := hrel.out.len
        obtain ⟨p, hp⟩ : ∃ p, ps[k]? = some p := ⟨_, List.getElem?_eq_getElem (by omega)⟩
        obtain ⟨T, hT⟩ : ∃ T, ts[k]? = some T := ⟨_, List.getElem?_eq_getElem (by omega)⟩
        have HI := Lib.hid (hrel.out.all.2 k p T hp hT)
        have Hfine := Lib.hid (hrel.out.fine T (List.mem_of_getElem? hT))
        have hTs : T.size ≤ 200 := by have h1 := Hfine.out.le; have h2 := keysTo_len os k; omega
        have hbw := hrel.out.bel
        have HBw := Lib.hid hbw
        obtain ⟨ga, rfl⟩ : ∃ ga, A3 = some ⟨ga, 0, none⟩ := by
          rcases hrel.out.own.2 with ⟨_, h2⟩ | ⟨g', cap', cur', h2, _⟩
          · omega
          · injection h2 with h2; exact ⟨_, h2⟩
        have hcell : wr.cell? ⟨ga, k, none⟩ = some (.pointer p) := (hrel.out.own.cellAt k (by omega)).trans (by rw [List.getElem?_map, hp]; rfl)
        have hga := (hrel.out.own.lt ga rfl).2
        clear hrel hl1 hl2 hp hT hbw hkz
        go_wp2_with fail
        have hbA : Below wr.heap.size wr (wr.alloc (.cells #[.pointer p] 27)) := (Below.refl _ _).alloc (Nat.le_refl _) _
        have Hz := Tr.size_split (cmpS key) T
        have hUz : (Tr.concat (Tr.split (cmpS key) T).1 (Tr.split (cmpS key) T).2).size ≤ 200 := by rw [Tr.size_concat]; omega
        have HJ : Hid (∀ lp rp wx, Is Value.string 127 wx lp (Tr.split (cmpS key) T).1 → Is Value.string 127 wx rp (Tr.split (cmpS key) T).2 → Calls Try.prog 18 #[.agg #[.pointer lp], .agg #[.pointer rp]] wx fun e w' => ∃ r, e = .returned (.tuple #[.agg #[.pointer r], .bool true]) ∧ Hid (Is Value.string 127 w' r (Tr.concat (Tr.split (cmpS key) T).1 (Tr.split (cmpS key) T).2)) ∧ Below wx.heap.size wx w') := fun lp rp wx h1 h2 => by
          have := joinT_any lp rp _ _ wx h1 h2 (by omega)
          rw [join_split key T Hfine.out.srt] at this
          exact this.mono fun e w' ⟨r, a, b, c⟩ => ⟨r, a, b, c⟩
        refine (splitT_any p T key _ (HI.out.below hbA) (by omega)).mono ?_
        rintro e w2 ⟨lp, rp, rfl, hLo, hHi, hb2⟩
        have hb8 := (hb2.block wr.heap.size (by simp)).trans (heap_alloc_new wr (.cells #[.pointer p] 27))
        have hI2 := (HI.out.below hbA).below hb2
        have hbw2 : Below w.heap.size w w2 := (HBw.out.alloc HBw.out.size _).trans (hb2.mono (by have := HBw.out.size; simp; omega))
        have hb3a : Below w2.heap.size w2 ((w2.alloc (.cells #[.pointer lp] 27)).alloc (.cells #[.pointer rp] 27)) := ((Below.refl _ _).alloc (Nat.le_refl _) _).alloc (by simp) _
        have HLo := Lib.hid (hLo.below hb3a)
        have HHi := Lib.hid (hHi.below hb3a)
        have Hb8 := Lib.hid hb8
        have HI2 := Lib.hid hI2
        have Hbw2 := Lib.hid hbw2
        have Hb3a := Lib.hid hb3a
        clear hLo hHi hb2 hb8 hI2 hbw2 hb3a hbA hcell hga HI HBw Hz
        go_wp2_with fail
        refine (HJ.out lp rp _ HLo.out HHi.out).mono ?_
        rintro e w3 ⟨pu, rfl, hU, hb3⟩
        have hbb := Hb3a.out.trans (hb3.mono Hb3a.out.size)
        have hb4 : Below w3.heap.size w3 (w3.alloc (.cells #[.pointer pu] 27)) := (Below.refl _ _).alloc (Nat.le_refl _) _
        have h8l := (Array.getElem?_eq_some_iff.1 Hb8.out).1
        have h8s : wr.heap.size < w3.heap.size := by have := hbb.size; omega
        have hall := hbb.trans (hb4.mono hbb.size)
        have r8 := (hall.block wr.heap.size h8l).trans Hb8.out
        have HIq0 := Lib.hid (HI2.out.below hall)
        have HUq0 := Lib.hid (hU.out.below hb4)
        have Hbq0 := Lib.hid (Hbw2.out.trans (hall.mono Hbw2.out.size))
        have r11 := heap_alloc_new w3 (.cells #[.pointer pu] 27)
        clear hU hb3 hbb hb4 hall HLo HHi Hb8 HI2 Hbw2 Hb3a HJ h8l
        obtain ⟨B8, hB8⟩ : ∃ B, B = wr.heap.size := ⟨_, rfl⟩
        obtain ⟨B11, hB11⟩ : ∃ B, B = w3.heap.size := ⟨_, rfl⟩
        go_upto_region 12 with fail
        rw [← hB8] at r8 h8s ⊢
        rw [← hB11] at r11 h8s ⊢
        obtain ⟨wq, hwq⟩ : ∃ wq, wq = w3.alloc (.cells #[.pointer pu] 27) := ⟨_, rfl⟩
        rw [← hwq] at r8 r11 HIq0 HUq0 Hbq0 ⊢
        clear hB8 hB11 hwq h8s
        have R8 := Lib.hid r8
        have R11 := Lib.hid r11
        have HX : Hid (∀ wx, Below wq.heap.size wq wx → wx.cell? ⟨B8, 0, none⟩ = some (.pointer p) ∧ wx.cell? ⟨B11, 0, none⟩ = some (.pointer pu)) := fun wx h => ⟨(cell_of_row _ _ 0 _ _ _ ((h.block B8 (Array.getElem?_eq_some_iff.1 R8.out).1).trans R8.out)).trans rfl, (cell_of_row _ _ 0 _ _ _ ((h.block B11 (Array.getElem?_eq_some_iff.1 R11.out).1).trans R11.out)).trans rfl⟩
        have hB8l := (Array.getElem?_eq_some_iff.1 r8).1
        have hB11l := (Array.getElem?_eq_some_iff.1 r11).1
        obtain ⟨LU, hLU⟩ : ∃ L, L = (Tr.concat (Tr.split (cmpS key) T).1 (Tr.split (cmpS key) T).2).ents := ⟨_, rfl⟩
        have HLU := Lib.hid hLU
        have hLUl : LU.length ≤ 1000000 := by rw [hLU, Tr.ents_len]; omega
        have hLTl : T.ents.length ≤ 1000000 := by rw [Tr.ents_len]; omega
        clear hLU r8 r11
        have HEu : Hid (∀ w1, Below wq.heap.size wq w1 → Calls Try.prog 20 #[.agg #[.pointer pu]] w1 fun e w' => ∃ v, e = .returned v ∧ Hid (OwE w' v LU) ∧ Below wq.heap.size wq w' ∧ Below w1.heap.size w1 w' ∧ w'.cell? ⟨B8, 0, none⟩ = some (.pointer p) ∧ w'.cell? ⟨B11, 0, none⟩ = some (.pointer pu)) := fun w1 h => by
          refine (entE pu _ w1 LU (HUq0.out.below h) (by omega) HLU.out.symm).mono ?_
          rintro e w' ⟨v, h1, h2, h3⟩
          have h4 := h.trans (h3.mono h.size)
          exact ⟨v, h1, h2, h4, h3, HX.out _ h4⟩
        have HEd : Hid (∀ r w1, Below wq.heap.size wq w1 → Hid (Is Value.string 127 w1 r (Tr.concat (Tr.split (cmpS key) T).1 (Tr.split (cmpS key) T).2)) → Calls Try.prog 20 #[.agg #[.pointer r]] w1 fun e w' => ∃ v, e = .returned v ∧ Hid (OwE w' v LU) ∧ Below wq.heap.size wq w' ∧ Below w1.heap.size w1 w' ∧ w'.cell? ⟨B8, 0, none⟩ = some (.pointer p) ∧ w'.cell? ⟨B11, 0, none⟩ = some (.pointer pu)) := fun r w1 h hI => by
          refine (entE r _ w1 LU hI.out (by omega) HLU.out.symm).mono ?_
          rintro e w' ⟨v, h1, h2, h3⟩
          have h4 := h.trans (h3.mono h.size)
          exact ⟨v, h1, h2, h4, h3, HX.out _ h4⟩
        have HDel : Hid (∀ w1, Below wq.heap.size wq w1 → Calls Try.prog 21 #[.agg #[.pointer p], .string key] w1 fun e w' => ∃ r, e = .returned (.agg #[.pointer r]) ∧ Hid (Is Value.string 127 w' r (Tr.concat (Tr.split (cmpS key) T).1 (Tr.split (cmpS key) T).2)) ∧ Below wq.heap.size wq w' ∧ Below w1.heap.size w1 w' ∧ w'.cell? ⟨B8, 0, none⟩ = some (.pointer p) ∧ w'.cell? ⟨B11, 0, none⟩ = some (.pointer pu)) := fun w1 h => by
          refine (deleteT_any p T key w1 (HIq0.out.below h) (by omega)).mono ?_
          rintro e w' ⟨r, h1, h2, h3⟩
          have h4 := h.trans (h3.mono h.size)
          exact ⟨r, h1, h2, h4, h3, HX.out _ h4⟩
        have HQ : Hid (∀ v v' w1 L, L.length ≤ 1000000 → Below wq.heap.size wq w1 → Hid (OwE w1 v L) → Hid (OwE w1 v' L) → Calls Try.prog 19 #[v, v'] w1 fun e w' => e = .returned (.bool true) ∧ Below wq.heap.size wq w' ∧ w'.cell? ⟨B8, 0, none⟩ = some (.pointer p) ∧ w'.cell? ⟨B11, 0, none⟩ = some (.pointer pu)) := fun v v' w1 L hL h h1 h2 => by
          obtain ⟨b1, k1⟩ := h1.out
          obtain ⟨b2, k2⟩ := h2.out
          refine (eqOwn_same v v' b1 b2 L w1 hL k1 k2).mono ?_
          rintro e w' ⟨h3, q, rfl⟩
          have h4 := below_drewN h q
          exact ⟨h3, h4, HX.out _ h4⟩
        have HKo : Hid (∀ v L w1 w2, Hid (OwE w1 v L) → Below w1.heap.size w1 w2 → Hid (OwE w2 v L)) := fun v L w1 w2 h1 h2 => h1.out.below h2
        have HKi : Hid (∀ r (t : TrS) w1 w2, Hid (Is Value.string 127 w1 r t) → Below w1.heap.size w1 w2 → Hid (Is Value.string 127 w2 r t)) := fun r t w1 w2 h1 h2 => h1.out.below h2
        have HFin : Hid (∀ x x9, Below wq.heap.size wq x → Below x.heap.size x x9 → Below w.heap.size w x9) := fun x x9 h1 h2 => Hbq0.out.trans ((h1.trans (h2.mono h1.size)).mono Hbq0.out.size)
        have HG : Hid (∀ w1, Below wq.heap.size wq w1 → Calls Try.prog 22 #[.agg #[.pointer p], .string key] w1 fun e w' => e = .returned (getV (T.get (cmpS key))) ∧ Below wq.heap.size wq w') := fun w1 h =>
          (getT_any p T key w1 (HIq0.out.below h)).mono fun e w' ⟨h1, h2⟩ => ⟨h1, h.trans (h2.mono h.size)⟩
        have HPut0 : Hid (∀ v w1, Below wq.heap.size wq w1 → Calls Try.prog 23 #[.agg #[.pointer pu], .string key, .int .i64 v] w1 fun e w' => ∃ r, e = .returned (.agg #[.pointer r]) ∧ Hid (Is Value.string 127 w' r (Tr.join (Tr.split (cmpS key) (Tr.concat (Tr.split (cmpS key) T).1 (Tr.split (cmpS key) T).2)).1 key v (Tr.split (cmpS key) (Tr.concat (Tr.split (cmpS key) T).1 (Tr.split (cmpS key) T).2)).2)) ∧ Below wq.heap.size wq w' ∧ Below w1.heap.size w1 w' ∧ w'.cell? ⟨B8, 0, none⟩ = some (.pointer p) ∧ w'.cell? ⟨B11, 0, none⟩ = some (.pointer pu)) := fun v w1 h => by
          refine (putT_any pu _ key v w1 (HUq0.out.below h) (by omega)).mono ?_
          rintro e w' ⟨r, h1, h2, h3⟩
          have h4 := h.trans (h3.mono h.size)
          exact ⟨r, h1, h2, h4, h3, HX.out _ h4⟩
        have HEp0 : Hid (∀ v, T.get (cmpS key) = some v → ∀ r w1, Below wq.heap.size wq w1 → Hid (Is Value.string 127 w1 r (Tr.join (Tr.split (cmpS key) (Tr.concat (Tr.split (cmpS key) T).1 (Tr.split (cmpS key) T).2)).1 key v (Tr.split (cmpS key) (Tr.concat (Tr.split (cmpS key) T).1 (Tr.split (cmpS key) T).2)).2)) → Calls Try.prog 20 #[.agg #[.pointer r]] w1 fun e w' => ∃ v, e = .returned v ∧ Hid (OwE w' v T.ents) ∧ Below wq.heap.size wq w' ∧ Below w1.heap.size w1 w' ∧ w'.cell? ⟨B8, 0, none⟩ = some (.pointer p) ∧ w'.cell? ⟨B11, 0, none⟩ = some (.pointer pu)) := fun v hg r w1 h hI => by
          have hPe := put_back key v T (Tr.concat (Tr.split (cmpS key) T).1 (Tr.split (cmpS key) T).2) Hfine.out.srt (concat_split key T Hfine.out.srt) hg
          refine (entE r _ w1 T.ents hI.out (by rw [← Tr.ents_len, hPe, Tr.ents_len]; omega) hPe).mono ?_
          rintro e w' ⟨v, h1, h2, h3⟩
          have h4 := h.trans (h3.mono h.size)
          exact ⟨v, h1, h2, h4, h3, HX.out _ h4⟩
        have HEt : Hid (∀ w1, Below wq.heap.size wq w1 → Calls Try.prog 20 #[.agg #[.pointer p]] w1 fun e w' => ∃ v, e = .returned v ∧ Hid (OwE w' v T.ents) ∧ Below wq.heap.size wq w' ∧ Below w1.heap.size w1 w' ∧ w'.cell? ⟨B8, 0, none⟩ = some (.pointer p) ∧ w'.cell? ⟨B11, 0, none⟩ = some (.pointer pu)) := fun w1 h => by
          refine (entE p _ w1 T.ents (HIq0.out.below h) (by omega) rfl).mono ?_
          rintro e w' ⟨v, h1, h2, h3⟩
          have h4 := h.trans (h3.mono h.size)
          exact ⟨v, h1, h2, h4, h3, HX.out _ h4⟩
        have Hdr := Lib.hid ((Below.refl wq.heap.size wq).drew)
        obtain ⟨cB8, cB11⟩ := HX.out _ (Below.refl _ _)
        go_region_held3 (fun w' => w'.cell? ⟨B8, 0, none⟩ = some (.pointer p) ∧ w'.cell? ⟨B11, 0, none⟩ = some (.pointer pu)) (first | exact ⟨cB8, cB11⟩ | exact cb4 | exact cb3 | exact cb2 | exact cb1)
          (first
            | (go_at_call 20; (with_reducible refine (HEu.out _ Hdr.out).mono ?_); rintro e x1 ⟨v1, rfl, ho1, hb1, hs1, cb1⟩)
            | (go_at_call 21; (with_reducible refine (HDel.out _ Hdr.out).mono ?_); rintro e x1 ⟨r2, rfl, hId, hb1, hs1, cb1⟩)
            | (go_at_call 21; (with_reducible refine (HDel.out _ hb1).mono ?_); rintro e x2 ⟨r2, rfl, hId, hb2, hs2, cb2⟩; have ho1 := HKo.out _ _ _ _ ho1 hs2)
            | (go_at_call 20; (with_reducible refine (HEd.out r2 _ hb1 hId).mono ?_); rintro e x2 ⟨v2, rfl, ho2, hb2, hs2, cb2⟩)
            | (go_at_call 20; (with_reducible refine (HEu.out _ hb1).mono ?_); rintro e x2 ⟨v1, rfl, ho1, hb2, hs2, cb2⟩; have hId := HKi.out _ _ _ _ hId hs2)
            | (go_at_call 20; (with_reducible refine (HEd.out r2 _ hb2 hId).mono ?_); rintro e x3 ⟨v2, rfl, ho2, hb3, hs3, cb3⟩; have ho1 := HKo.out _ _ _ _ ho1 hs3)
            | (go_at_call 20; (with_reducible refine (HEu.out _ hb2).mono ?_); rintro e x3 ⟨v1, rfl, ho1, hb3, hs3, cb3⟩; have ho2 := HKo.out _ _ _ _ ho2 hs3)
            | (go_at_call 19; (with_reducible refine (HQ.out v1 v2 _ LU hLUl hb3 ho1 ho2).mono ?_); rintro e x4 ⟨rfl, hb4, cb4⟩)
            | (go_at_call 19; (with_reducible refine (HQ.out v2 v1 _ LU hLUl hb3 ho2 ho1).mono ?_); rintro e x4 ⟨rfl, hb4, cb4⟩))
        all_goals
          have Hb4 := Lib.hid hb4
          clear hb1 hb2 hb3 hb4 hs1 hs2 hs3 cb1 cb2 cb3 ho1 ho2 hId cB8 cB11 Hdr
          have hb4 := Hb4.out
          go_wp2_with fail
          refine (HG.out _ Hb4.out).mono ?_
          rintro e x5 ⟨rfl, hb5⟩
          have Hb5 := Lib.hid hb5
          clear hb5 hb4 cb4 Hb4
          obtain ⟨o, ho⟩ : ∃ o, o = T.get (cmpS key) := ⟨_, rfl⟩
          rw [← ho]
          cases o with
          | none =>
            clear ho
            dsimp only [getV]
            go_wp2
            go_quiet (fail)
            go_wp2_with fail
            generalize hzz : World.drewN x5 _ = xz
            have Hz : Hid (Below wq.heap.size wq xz) := by subst hzz; exact below_drewN Hb5.out _
            clear hzz
            refine (awake12_any xz).mono ?_
            rintro e x9 ⟨rfl, hb9⟩
            have Hb9 := Lib.hid (HFin.out _ _ Hz.out hb9)
            clear hb9
            go_wp2
            go_ret
            exact ⟨rfl, Hb9.out⟩
          | some v =>
            have HPut := Lib.hid (HPut0.out v)
            have HEp := Lib.hid (HEp0.out v ho.symm)
            have Hdr := Lib.hid (Hb5.out.drew)
            obtain ⟨cB8, cB11⟩ := HX.out _ Hb5.out
            clear ho
            dsimp only [getV]
            go_wp2
            go_region_held3 (fun w' => w'.cell? ⟨B8, 0, none⟩ = some (.pointer p) ∧ w'.cell? ⟨B11, 0, none⟩ = some (.pointer pu)) (first | exact ⟨cB8, cB11⟩ | exact cb4 | exact cb3 | exact cb2 | exact cb1)
              (first
                | (go_at_call 20; (with_reducible refine (HEt.out _ Hdr.out).mono ?_); rintro e x1 ⟨v1, rfl, ho1, hb1, hs1, cb1⟩)
                | (go_at_call 23; (with_reducible refine (HPut.out _ Hdr.out).mono ?_); rintro e x1 ⟨r2, rfl, hId, hb1, hs1, cb1⟩)
                | (go_at_call 23; (with_reducible refine (HPut.out _ hb1).mono ?_); rintro e x2 ⟨r2, rfl, hId, hb2, hs2, cb2⟩; have ho1 := HKo.out _ _ _ _ ho1 hs2)
                | (go_at_call 20; (with_reducible refine (HEp.out r2 _ hb1 hId).mono ?_); rintro e x2 ⟨v2, rfl, ho2, hb2, hs2, cb2⟩)
                | (go_at_call 20; (with_reducible refine (HEt.out _ hb1).mono ?_); rintro e x2 ⟨v1, rfl, ho1, hb2, hs2, cb2⟩; have hId := HKi.out _ _ _ _ hId hs2)
                | (go_at_call 20; (with_reducible refine (HEp.out r2 _ hb2 hId).mono ?_); rintro e x3 ⟨v2, rfl, ho2, hb3, hs3, cb3⟩; have ho1 := HKo.out _ _ _ _ ho1 hs3)
                | (go_at_call 20; (with_reducible refine (HEt.out _ hb2).mono ?_); rintro e x3 ⟨v1, rfl, ho1, hb3, hs3, cb3⟩; have ho2 := HKo.out _ _ _ _ ho2 hs3)
                | (go_at_call 19; (with_reducible refine (HQ.out v1 v2 _ T.ents hLTl hb3 ho1 ho2).mono ?_); rintro e x4 ⟨rfl, hb4, cb4⟩)
                | (go_at_call 19; (with_reducible refine (HQ.out v2 v1 _ T.ents hLTl hb3 ho2 ho1).mono ?_); rintro e x4 ⟨rfl, hb4, cb4⟩))
            all_goals
              have Hb4 := Lib.hid hb4
              clear hb1 hb2 hb3 hb4 hs1 hs2 hs3 cb1 cb2 cb3 cb4 ho1 ho2 hId cB8 cB11 Hdr
              go_wp2_with fail
              refine (awake12_any _).mono ?_
              rintro e x9 ⟨rfl, hb9⟩
              have Hb9 := Lib.hid (HFin.out _ _ Hb4.out hb9)
              clear hb9
              go_wp2
              go_ret
              exact ⟨rfl, Hb9.out⟩
end Go.Proofs.Ytimgnmlcgnibhaa.Tok
