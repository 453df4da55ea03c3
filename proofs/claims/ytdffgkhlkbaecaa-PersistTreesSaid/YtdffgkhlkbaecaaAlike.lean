/- A tree and the reference's list of the same entries are alike. -/
import Derived.Test.YtdffgkhlkbaecaaModel
import Derived.Test.YtdffgkhlkbaecaaEqEnt
import Derived.Test.YtdffgkhlkbaecaaGet
import Derived.Test.YtdffgkhlkbaecaaTreeAt
namespace Go.Proofs.Ytdffgkhlkbaecaa.Tok
open Go.RowKit Go.Proofs.Ytdffgkhlkbaecaa
open Tr (Sorted CmpOk lows highs)

/-- What alike asks, in whatever later world. -/
structure Ask (p : Option Addr) (t : TrS) (A : Option Addr) (n c : Nat) (key : ByteArray) (w W : World) : Prop where
  bel : Below w.heap.size w W
  box : W.heap[w.heap.size]? = some (.cells #[.pointer p] 27 (0, 0))
  tree : Is Value.string 98 W p t
  list : Rd W w.heap.size 2 A n (t.ents.flatMap enV)
theorem Ask.next {p : Option Addr} {t : TrS} {A : Option Addr} {n c : Nat} {key : ByteArray} {w W W' : World} (h : Ask p t A n c key w W) (hb : Below W.heap.size W W') : Ask p t A n c key w W' :=
  have hlt := (Array.getElem?_eq_some_iff.1 h.box).1
  ⟨h.bel.trans (hb.mono h.bel.size), (hb.block _ hlt).trans h.box, h.tree.below hb, h.list.below (hb.mono h.bel.size)⟩
theorem Ask.cell {p : Option Addr} {t : TrS} {A : Option Addr} {n c : Nat} {key : ByteArray} {w W : World} (h : Ask p t A n c key w W) : W.cell? ⟨w.heap.size, 0, none⟩ = some (.pointer p) := (cell_of_row _ _ 0 _ _ _ h.box).trans rfl
theorem Ask.lt {p : Option Addr} {t : TrS} {A : Option Addr} {n c : Nat} {key : ByteArray} {w W : World} (h : Ask p t A n c key w W) : w.heap.size < W.heap.size := (Array.getElem?_eq_some_iff.1 h.box).1

set_option maxHeartbeats 3200000 in
set_option maxRecDepth 8000 in
theorem alike_pos (p : Option Addr) (t : TrS) (b off : Nat) (n c : Nat) (key : ByteArray) (w : World) (hI : Is Value.string 98 w p t) (hr : Rd w w.heap.size 2 (some ⟨b, off, none⟩) n (t.ents.flatMap enV)) (hs : Sorted cmpS t.ents) (hn : n ≤ 500) :
    Calls Try.prog 9 #[.agg #[.pointer p], .slice (some ⟨b, off, none⟩) n c, .string key] w fun e w' => e = .returned (.bool true) ∧ Hid (Below w.heap.size w w') := by
  have hel := ent_len hr
  have htn : t.size = n := by rw [← Tr.ents_len]; exact hel
  have hAsk : Hid (∀ W, Ask p t (some ⟨b, off, none⟩) n c key w W → Hid (Below w.heap.size w W) ∧ W.cell? ⟨w.heap.size, 0, none⟩ = some (.pointer p) ∧ w.heap.size < W.heap.size) := fun W h => ⟨h.bel, h.cell, h.lt⟩
  have HSz : Hid (∀ W, Hid (Ask p t (some ⟨b, off, none⟩) n c key w W) → Calls Try.prog 30 #[.agg #[.pointer p]] W fun e w' => e = .returned (.int .i64 (n : Nat)) ∧ Hid (Ask p t (some ⟨b, off, none⟩) n c key w w')) := fun W h => by
    exact (sizeT_any p t W h.out.tree).mono fun e w' ⟨h1, h2⟩ => ⟨by rw [← htn]; exact h1, h.out.next h2⟩
  have HEn : Hid (∀ W, Hid (Ask p t (some ⟨b, off, none⟩) n c key w W) → Calls Try.prog 32 #[.agg #[.pointer p]] W fun e w' => ∃ v, e = .returned v ∧ Hid (OwE w' v t.ents) ∧ Hid (Ask p t (some ⟨b, off, none⟩) n c key w w')) := fun W h => by
    refine (entries_any p t W h.out.tree (by omega)).mono ?_
    rintro e w' ⟨v, h1, h2, h3⟩
    exact ⟨v, h1, ⟨_, h2.out⟩, h.out.next h3⟩
  have HEq : Hid (∀ W v, Hid (Ask p t (some ⟨b, off, none⟩) n c key w W) → Hid (OwE W v t.ents) → Calls Try.prog 31 #[v, .slice (some ⟨b, off, none⟩) n c] W fun e w' => e = .returned (.bool true) ∧ Hid (Ask p t (some ⟨b, off, none⟩) n c key w w')) := fun W v h ho => by
    obtain ⟨A1, c1, rfl, _, r1⟩ := ho.out.rd
    rw [hel] at r1 ⊢
    refine (eqEnt_same A1 (some ⟨b, off, none⟩) n c1 c _ _ t.ents W (by omega) r1 h.out.list).mono ?_
    rintro e w' ⟨h1, q, rfl⟩
    exact ⟨h1, h.out.next (below_drewN (Below.refl _ _) q)⟩
  have HRk : Hid (∀ W, Hid (Ask p t (some ⟨b, off, none⟩) n c key w W) → Calls Try.prog 21 #[.agg #[.pointer p], .string key] W fun e w' => e = .returned (.int .i64 ((lows cmpS key t.ents).length : Nat)) ∧ Hid (Ask p t (some ⟨b, off, none⟩) n c key w w')) := fun W h => by
    exact (rankT_any p t key W h.out.tree (by omega)).mono fun e w' ⟨h1, h2⟩ => ⟨by rw [← rank_lows key t hs]; exact h1, h.out.next h2⟩
  have HRr : Hid (∀ W, Hid (Ask p t (some ⟨b, off, none⟩) n c key w W) → Calls Try.prog 33 #[.slice (some ⟨b, off, none⟩) n c, .string key] W fun e w' => e = .returned (.int .i64 ((lows cmpS key t.ents).length : Nat)) ∧ Hid (Ask p t (some ⟨b, off, none⟩) n c key w w')) := fun W h =>
    (rrank_any (some ⟨b, off, none⟩) n c t.ents key W hs (by omega) (h.out.list.more h.out.bel.size)).mono fun e w' ⟨h1, h2⟩ => ⟨h1, by rw [h2]; exact h⟩
  have HHs : Hid (∀ W, Hid (Ask p t (some ⟨b, off, none⟩) n c key w W) → Calls Try.prog 35 #[.slice (some ⟨b, off, none⟩) n c, .string key] W fun e w' => e = .returned (.bool (hasK key t.ents)) ∧ Hid (Ask p t (some ⟨b, off, none⟩) n c key w w')) := fun W h =>
    (rhas_any (some ⟨b, off, none⟩) n c t.ents key W hs (by omega) (h.out.list.more h.out.bel.size)).mono fun e w' ⟨h1, h2⟩ => ⟨h1, by rw [h2]; exact h⟩
  have HGt : Hid (∀ W, Hid (Ask p t (some ⟨b, off, none⟩) n c key w W) → Calls Try.prog 34 #[.agg #[.pointer p], .string key] W fun e w' => e = .returned (getV (t.get (cmpS key))) ∧ Hid (Ask p t (some ⟨b, off, none⟩) n c key w w')) := fun W h =>
    (getT_any p t key W h.out.tree).mono fun e w' ⟨h1, h2⟩ => ⟨h1, h.out.next h2⟩
  have HAt : Hid (∀ (z : Int) W, -1 ≤ z → z ≤ 1000 → Hid (Ask p t (some ⟨b, off, none⟩) n c key w W) → Calls Try.prog 17 #[.agg #[.pointer p], .int .i64 z] W fun e w' => e = .returned (atV (t.nth z)) ∧ Hid (Ask p t (some ⟨b, off, none⟩) n c key w w')) := fun z W h1 h2 h =>
    (atT_any p t z W h.out.tree (by omega) (by omega) (by omega)).mono fun e w' ⟨h1, h2⟩ => ⟨h1, h.out.next h2⟩
  have hget := get_cases key t hs
  have Hcell : Hid (∀ (j : Nat) (h : j < t.ents.length) W, Hid (Ask p t (some ⟨b, off, none⟩) n c key w W) → b < W.heap.size ∧ W.cell? ⟨b, off + j * 2, none⟩ = some (.string t.ents[j].1) ∧ W.cell? ⟨b, off + j * 2 + 1, none⟩ = some (.int .i64 t.ents[j].2)) := fun j h W hW => by
    obtain ⟨b', off', e, hb, hc⟩ := hW.out.list.pos (by omega)
    injection e with e
    injection e with e1 e2
    subst e1 e2
    have := hW.out.bel.size
    exact ⟨by omega, hc _ _ (en_at t.ents j h).1, hc _ _ (en_at t.ents j h).2⟩
  have Hel := Lib.hid hel
  have Hnth := Lib.hid (Tr.nth_ents t)
  have Hstart : Hid (Ask p t (some ⟨b, off, none⟩) n c key w (w.alloc (.cells #[.pointer p] 27))) :=
    ⟨(Below.refl _ _).alloc (Nat.le_refl _) _, heap_alloc_new _ _, hI.below ((Below.refl _ _).alloc (Nat.le_refl _) _), hr.below ((Below.refl _ _).alloc (Nat.le_refl _) _)⟩
  clear hI hr hs htn hel
  obtain ⟨R, hR⟩ : ∃ R, R = (lows cmpS key t.ents).length := ⟨_, rfl⟩
  obtain ⟨o, ho⟩ : ∃ o, o = t.get (cmpS key) := ⟨_, rfl⟩
  obtain ⟨hk, hhk⟩ : ∃ b, b = hasK key t.ents := ⟨_, rfl⟩
  rw [← hR] at HRk HRr
  rw [← ho] at HGt
  rw [← hhk] at HHs
  rw [← ho, ← hhk] at hget
  clear ho hhk
  go_enter Try.func9, Try.ntmps9
  go_wp2_with fail
  refine (HSz.out _ Hstart).mono ?_
  rintro e w1 ⟨rfl, a1⟩
  obtain ⟨-, k1, k2⟩ := hAsk.out _ a1.out
  go_wp2_with fail
  refine (HEn.out _ a1).mono ?_
  rintro e w2 ⟨v, rfl, ho, a2⟩
  clear k1 k2
  go_wp2_with fail
  refine (HEq.out _ v a2 ho).mono ?_
  rintro e w3 ⟨rfl, a3⟩
  obtain ⟨-, k1, k2⟩ := hAsk.out _ a3.out
  go_wp2_with fail
  refine (HRk.out _ a3).mono ?_
  rintro e w4 ⟨rfl, a4⟩
  go_wp2_with fail
  refine (HRr.out _ a4).mono ?_
  rintro e w5 ⟨rfl, a5⟩
  clear k1 k2
  obtain ⟨-, k1, k2⟩ := hAsk.out _ a5.out
  go_wp2_with fail
  refine (HGt.out _ a5).mono ?_
  rintro e w6 ⟨rfl, a6⟩
  clear k1 k2
  rcases hget with ⟨rfl, rfl⟩ | ⟨v, rfl, rfl, hlt, hat⟩
  · clear hR
    dsimp only [getV]
    go_wp2_with fail
    refine (HHs.out _ a6).mono ?_
    rintro e w9 ⟨rfl, a9⟩
    go_wp2
    go_loopw [9] (fun iv wr => ∃ z : Int, -1 ≤ z ∧ z ≤ (n : Int) + 1 ∧ iv = .int .i64 z ∧ Hid (Ask p t (some ⟨b, off, none⟩) n c key w wr)) (fun iv _ => ((n : Int) + 1 - intOf iv).toNat)
    case atStart => exact ⟨-1, by omega, by omega, rfl, a9⟩
    case round =>
      obtain ⟨z, hz1, hz2, rfl, ar⟩ := hrel
      obtain ⟨-, k1, k2⟩ := hAsk.out _ ar.out
      by_cases hle : z ≤ (n : Int)
      · have hw1 : IntKind.i64.wrap (z + 1) = z + 1 := IntWalk.i64_in _ (by omega)
        have HC := Lib.hid (HAt.out z wr hz1 (by omega) ar)
        by_cases hin : 0 ≤ z ∧ z < (n : Int)
        · obtain ⟨j, rfl⟩ : ∃ j : Nat, z = (j : Int) := ⟨z.toNat, by omega⟩
          have hj : j < t.ents.length := by have := Hel.out; omega
          have hjn : j < n := by omega
          have hsome : t.nth (j : Int) = some t.ents[j] := by
            rw [Hnth.out, if_pos (by omega), Int.toNat_natCast]
            exact List.getElem?_eq_getElem hj
          have Hcj := Lib.hid (Hcell.out j hj)
          rw [hsome] at HC
          generalize t.ents[j] = x at HC Hcj
          obtain ⟨xk, xv⟩ := x
          dsimp only [atV] at HC Hcj
          have g1 : decide ((j : Int) ≤ (n : Int)) = true := decide_eq_true hle
          have g2 : decide ((0 : Int) ≤ (j : Int)) = true := decide_eq_true (by omega)
          have g3 : decide ((j : Int) < (n : Int)) = true := decide_eq_true (by omega)
          clear hin hsome hj
          go_wp2_with fail
          refine (HC.out).mono ?_
          rintro e w8 ⟨rfl, a8⟩
          clear k1 k2
          obtain ⟨hbl, e0, e1⟩ := Hcj.out w8 a8
          go_wp2
          go_light
          exact ⟨⟨(j : Int) + 1, by omega, by omega, by go_num, a8⟩, by simp [intOf]; omega⟩
        · have hnone : t.nth z = none := by
            rw [Hnth.out]
            by_cases h0 : 0 ≤ z
            · rw [if_pos h0]
              exact List.getElem?_eq_none (by have := Hel.out; omega)
            · rw [if_neg h0]
          rw [hnone] at HC
          dsimp only [atV] at HC
          clear hnone
          rcases (by omega : z = -1 ∨ (0 ≤ z ∧ z = (n : Int))) with rfl | ⟨h0, hzn⟩
          · have g1 : decide ((-1 : Int) ≤ (n : Int)) = true := decide_eq_true (by omega)
            clear hin
            go_wp2_with fail
            refine (HC.out).mono ?_
            rintro e w8 ⟨rfl, a8⟩
            clear k1 k2
            go_wp2
            go_light
            exact ⟨⟨0, by omega, by omega, by go_num, a8⟩, by simp [intOf]; omega⟩
          · have g1 : decide (z ≤ (n : Int)) = true := decide_eq_true hle
            have g2 : decide ((0 : Int) ≤ z) = true := decide_eq_true h0
            have g3 : decide (z < (n : Int)) = false := decide_eq_false (by omega)
            have Hzn := Lib.hid hzn
            clear hin hzn
            go_wp2_with fail
            refine (HC.out).mono ?_
            rintro e w8 ⟨rfl, a8⟩
            clear k1 k2
            go_wp2
            go_light
            exact ⟨⟨z + 1, by omega, by have := Hzn.out; omega, by go_num, a8⟩, by have := Hzn.out; simp [intOf]; omega⟩
      · have g1 : decide (z ≤ (n : Int)) = false := decide_eq_false hle
        have hb := (hAsk.out _ ar.out).1
        clear k1 k2
        go_wp2
        go_ret
        exact ⟨rfl, hb⟩
  · subst hR
    have hRn : (lows cmpS key t.ents).length < n := by have := Hel.out; omega
    have Hcr := Lib.hid (Hcell.out _ hlt)
    rw [hat] at Hcr
    dsimp only at Hcr
    clear hat hlt
    dsimp only [getV]
    generalize (lows cmpS key t.ents).length = R at *
    go_wp2_with fail
    refine (HHs.out _ a6).mono ?_
    rintro e w7 ⟨rfl, a7⟩
    go_wp2_with fail
    refine (HRr.out _ a7).mono ?_
    rintro e w9 ⟨rfl, a9⟩
    obtain ⟨hbl, e0, e1⟩ := Hcr.out w9 a9
    go_wp2
    clear hbl e0 e1
    go_loopw [9] (fun iv wr => ∃ z : Int, -1 ≤ z ∧ z ≤ (n : Int) + 1 ∧ iv = .int .i64 z ∧ Hid (Ask p t (some ⟨b, off, none⟩) n c key w wr)) (fun iv _ => ((n : Int) + 1 - intOf iv).toNat)
    case atStart => exact ⟨-1, by omega, by omega, rfl, a9⟩
    case round =>
      obtain ⟨z, hz1, hz2, rfl, ar⟩ := hrel
      obtain ⟨-, k1, k2⟩ := hAsk.out _ ar.out
      by_cases hle : z ≤ (n : Int)
      · have hw1 : IntKind.i64.wrap (z + 1) = z + 1 := IntWalk.i64_in _ (by omega)
        have HC := Lib.hid (HAt.out z wr hz1 (by omega) ar)
        by_cases hin : 0 ≤ z ∧ z < (n : Int)
        · obtain ⟨j, rfl⟩ : ∃ j : Nat, z = (j : Int) := ⟨z.toNat, by omega⟩
          have hj : j < t.ents.length := by have := Hel.out; omega
          have hjn : j < n := by omega
          have hsome : t.nth (j : Int) = some t.ents[j] := by
            rw [Hnth.out, if_pos (by omega), Int.toNat_natCast]
            exact List.getElem?_eq_getElem hj
          have Hcj := Lib.hid (Hcell.out j hj)
          rw [hsome] at HC
          generalize t.ents[j] = x at HC Hcj
          obtain ⟨xk, xv⟩ := x
          dsimp only [atV] at HC Hcj
          have g1 : decide ((j : Int) ≤ (n : Int)) = true := decide_eq_true hle
          have g2 : decide ((0 : Int) ≤ (j : Int)) = true := decide_eq_true (by omega)
          have g3 : decide ((j : Int) < (n : Int)) = true := decide_eq_true (by omega)
          clear hin hsome hj
          go_wp2_with fail
          refine (HC.out).mono ?_
          rintro e w8 ⟨rfl, a8⟩
          clear k1 k2
          obtain ⟨hbl, e0, e1⟩ := Hcj.out w8 a8
          go_wp2
          go_light
          exact ⟨⟨(j : Int) + 1, by omega, by omega, by go_num, a8⟩, by simp [intOf]; omega⟩
        · have hnone : t.nth z = none := by
            rw [Hnth.out]
            by_cases h0 : 0 ≤ z
            · rw [if_pos h0]
              exact List.getElem?_eq_none (by have := Hel.out; omega)
            · rw [if_neg h0]
          rw [hnone] at HC
          dsimp only [atV] at HC
          clear hnone
          rcases (by omega : z = -1 ∨ (0 ≤ z ∧ z = (n : Int))) with rfl | ⟨h0, hzn⟩
          · have g1 : decide ((-1 : Int) ≤ (n : Int)) = true := decide_eq_true (by omega)
            clear hin
            go_wp2_with fail
            refine (HC.out).mono ?_
            rintro e w8 ⟨rfl, a8⟩
            clear k1 k2
            go_wp2
            go_light
            exact ⟨⟨0, by omega, by omega, by go_num, a8⟩, by simp [intOf]; omega⟩
          · have g1 : decide (z ≤ (n : Int)) = true := decide_eq_true hle
            have g2 : decide ((0 : Int) ≤ z) = true := decide_eq_true h0
            have g3 : decide (z < (n : Int)) = false := decide_eq_false (by omega)
            have Hzn := Lib.hid hzn
            clear hin hzn
            go_wp2_with fail
            refine (HC.out).mono ?_
            rintro e w8 ⟨rfl, a8⟩
            clear k1 k2
            go_wp2
            go_light
            exact ⟨⟨z + 1, by omega, by have := Hzn.out; omega, by go_num, a8⟩, by have := Hzn.out; simp [intOf]; omega⟩
      · have g1 : decide (z ≤ (n : Int)) = false := decide_eq_false hle
        have hb := (hAsk.out _ ar.out).1
        clear k1 k2
        go_wp2
        go_ret
        exact ⟨rfl, hb⟩
set_option maxHeartbeats 3200000 in
set_option maxRecDepth 8000 in
theorem alike_zero (p : Option Addr) (t : TrS) (A : Option Addr) (n c : Nat) (key : ByteArray) (w : World) (hI : Is Value.string 98 w p t) (hr : Rd w w.heap.size 2 A n (t.ents.flatMap enV)) (hs : Sorted cmpS t.ents) (hn : n ≤ 500) (hz : n = 0) :
    Calls Try.prog 9 #[.agg #[.pointer p], .slice A n c, .string key] w fun e w' => e = .returned (.bool true) ∧ Hid (Below w.heap.size w w') := by
  have Hz := Lib.hid hz
  clear hz
  have hel := ent_len hr
  have htn : t.size = n := by rw [← Tr.ents_len]; exact hel
  have hAsk : Hid (∀ W, Ask p t A n c key w W → Hid (Below w.heap.size w W) ∧ W.cell? ⟨w.heap.size, 0, none⟩ = some (.pointer p) ∧ w.heap.size < W.heap.size) := fun W h => ⟨h.bel, h.cell, h.lt⟩
  have HSz : Hid (∀ W, Hid (Ask p t A n c key w W) → Calls Try.prog 30 #[.agg #[.pointer p]] W fun e w' => e = .returned (.int .i64 (n : Nat)) ∧ Hid (Ask p t A n c key w w')) := fun W h => by
    exact (sizeT_any p t W h.out.tree).mono fun e w' ⟨h1, h2⟩ => ⟨by rw [← htn]; exact h1, h.out.next h2⟩
  have HEn : Hid (∀ W, Hid (Ask p t A n c key w W) → Calls Try.prog 32 #[.agg #[.pointer p]] W fun e w' => ∃ v, e = .returned v ∧ Hid (OwE w' v t.ents) ∧ Hid (Ask p t A n c key w w')) := fun W h => by
    refine (entries_any p t W h.out.tree (by omega)).mono ?_
    rintro e w' ⟨v, h1, h2, h3⟩
    exact ⟨v, h1, ⟨_, h2.out⟩, h.out.next h3⟩
  have HEq : Hid (∀ W v, Hid (Ask p t A n c key w W) → Hid (OwE W v t.ents) → Calls Try.prog 31 #[v, .slice A n c] W fun e w' => e = .returned (.bool true) ∧ Hid (Ask p t A n c key w w')) := fun W v h ho => by
    obtain ⟨A1, c1, rfl, _, r1⟩ := ho.out.rd
    rw [hel] at r1 ⊢
    refine (eqEnt_same A1 A n c1 c _ _ t.ents W (by omega) r1 h.out.list).mono ?_
    rintro e w' ⟨h1, q, rfl⟩
    exact ⟨h1, h.out.next (below_drewN (Below.refl _ _) q)⟩
  have HRk : Hid (∀ W, Hid (Ask p t A n c key w W) → Calls Try.prog 21 #[.agg #[.pointer p], .string key] W fun e w' => e = .returned (.int .i64 ((lows cmpS key t.ents).length : Nat)) ∧ Hid (Ask p t A n c key w w')) := fun W h => by
    exact (rankT_any p t key W h.out.tree (by omega)).mono fun e w' ⟨h1, h2⟩ => ⟨by rw [← rank_lows key t hs]; exact h1, h.out.next h2⟩
  have HRr : Hid (∀ W, Hid (Ask p t A n c key w W) → Calls Try.prog 33 #[.slice A n c, .string key] W fun e w' => e = .returned (.int .i64 ((lows cmpS key t.ents).length : Nat)) ∧ Hid (Ask p t A n c key w w')) := fun W h =>
    (rrank_any A n c t.ents key W hs (by omega) (h.out.list.more h.out.bel.size)).mono fun e w' ⟨h1, h2⟩ => ⟨h1, by rw [h2]; exact h⟩
  have HHs : Hid (∀ W, Hid (Ask p t A n c key w W) → Calls Try.prog 35 #[.slice A n c, .string key] W fun e w' => e = .returned (.bool (hasK key t.ents)) ∧ Hid (Ask p t A n c key w w')) := fun W h =>
    (rhas_any A n c t.ents key W hs (by omega) (h.out.list.more h.out.bel.size)).mono fun e w' ⟨h1, h2⟩ => ⟨h1, by rw [h2]; exact h⟩
  have HGt : Hid (∀ W, Hid (Ask p t A n c key w W) → Calls Try.prog 34 #[.agg #[.pointer p], .string key] W fun e w' => e = .returned (getV (t.get (cmpS key))) ∧ Hid (Ask p t A n c key w w')) := fun W h =>
    (getT_any p t key W h.out.tree).mono fun e w' ⟨h1, h2⟩ => ⟨h1, h.out.next h2⟩
  have HAt : Hid (∀ (z : Int) W, -1 ≤ z → z ≤ 1000 → Hid (Ask p t A n c key w W) → Calls Try.prog 17 #[.agg #[.pointer p], .int .i64 z] W fun e w' => e = .returned (atV (t.nth z)) ∧ Hid (Ask p t A n c key w w')) := fun z W h1 h2 h =>
    (atT_any p t z W h.out.tree (by omega) (by omega) (by omega)).mono fun e w' ⟨h1, h2⟩ => ⟨h1, h.out.next h2⟩
  have hget := get_cases key t hs
  have Hel := Lib.hid hel
  have Hnth := Lib.hid (Tr.nth_ents t)
  have Hstart : Hid (Ask p t A n c key w (w.alloc (.cells #[.pointer p] 27))) :=
    ⟨(Below.refl _ _).alloc (Nat.le_refl _) _, heap_alloc_new _ _, hI.below ((Below.refl _ _).alloc (Nat.le_refl _) _), hr.below ((Below.refl _ _).alloc (Nat.le_refl _) _)⟩
  clear hI hr hs htn hel
  obtain ⟨R, hR⟩ : ∃ R, R = (lows cmpS key t.ents).length := ⟨_, rfl⟩
  obtain ⟨o, ho⟩ : ∃ o, o = t.get (cmpS key) := ⟨_, rfl⟩
  obtain ⟨hk, hhk⟩ : ∃ b, b = hasK key t.ents := ⟨_, rfl⟩
  rw [← hR] at HRk HRr
  rw [← ho] at HGt
  rw [← hhk] at HHs
  rw [← ho, ← hhk] at hget
  clear ho hhk
  go_enter Try.func9, Try.ntmps9
  go_wp2_with fail
  refine (HSz.out _ Hstart).mono ?_
  rintro e w1 ⟨rfl, a1⟩
  obtain ⟨-, k1, k2⟩ := hAsk.out _ a1.out
  go_wp2_with fail
  refine (HEn.out _ a1).mono ?_
  rintro e w2 ⟨v, rfl, ho, a2⟩
  clear k1 k2
  go_wp2_with fail
  refine (HEq.out _ v a2 ho).mono ?_
  rintro e w3 ⟨rfl, a3⟩
  obtain ⟨-, k1, k2⟩ := hAsk.out _ a3.out
  go_wp2_with fail
  refine (HRk.out _ a3).mono ?_
  rintro e w4 ⟨rfl, a4⟩
  go_wp2_with fail
  refine (HRr.out _ a4).mono ?_
  rintro e w5 ⟨rfl, a5⟩
  clear k1 k2
  obtain ⟨-, k1, k2⟩ := hAsk.out _ a5.out
  go_wp2_with fail
  refine (HGt.out _ a5).mono ?_
  rintro e w6 ⟨rfl, a6⟩
  clear k1 k2
  obtain ⟨rfl, rfl⟩ : o = none ∧ hk = false := by
    rcases hget with h | ⟨v, _, _, h, _⟩
    · exact h
    · have := Hel.out; have := Hz.out; omega
  clear hget
  · clear hR
    dsimp only [getV]
    go_wp2_with fail
    refine (HHs.out _ a6).mono ?_
    rintro e w9 ⟨rfl, a9⟩
    go_wp2
    go_loopw [9] (fun iv wr => ∃ z : Int, -1 ≤ z ∧ z ≤ (n : Int) + 1 ∧ iv = .int .i64 z ∧ Hid (Ask p t A n c key w wr)) (fun iv _ => ((n : Int) + 1 - intOf iv).toNat)
    case atStart => exact ⟨-1, by omega, by omega, rfl, a9⟩
    case round =>
      obtain ⟨z, hz1, hz2, rfl, ar⟩ := hrel
      obtain ⟨-, k1, k2⟩ := hAsk.out _ ar.out
      by_cases hle : z ≤ (n : Int)
      · have hw1 : IntKind.i64.wrap (z + 1) = z + 1 := IntWalk.i64_in _ (by omega)
        have HC := Lib.hid (HAt.out z wr hz1 (by omega) ar)
        by_cases hin : 0 ≤ z ∧ z < (n : Int)
        · exfalso; have := Hz.out; omega
        · have hnone : t.nth z = none := by
            rw [Hnth.out]
            by_cases h0 : 0 ≤ z
            · rw [if_pos h0]
              exact List.getElem?_eq_none (by have := Hel.out; omega)
            · rw [if_neg h0]
          rw [hnone] at HC
          dsimp only [atV] at HC
          clear hnone
          rcases (by omega : z = -1 ∨ (0 ≤ z ∧ z = (n : Int))) with rfl | ⟨h0, hzn⟩
          · have g1 : decide ((-1 : Int) ≤ (n : Int)) = true := decide_eq_true (by omega)
            clear hin
            go_wp2_with fail
            refine (HC.out).mono ?_
            rintro e w8 ⟨rfl, a8⟩
            clear k1 k2
            go_wp2
            go_light
            exact ⟨⟨0, by omega, by omega, by go_num, a8⟩, by simp [intOf]; omega⟩
          · have g1 : decide (z ≤ (n : Int)) = true := decide_eq_true hle
            have g2 : decide ((0 : Int) ≤ z) = true := decide_eq_true h0
            have g3 : decide (z < (n : Int)) = false := decide_eq_false (by omega)
            have Hzn := Lib.hid hzn
            clear hin hzn
            go_wp2_with fail
            refine (HC.out).mono ?_
            rintro e w8 ⟨rfl, a8⟩
            clear k1 k2
            go_wp2
            go_light
            exact ⟨⟨z + 1, by omega, by have := Hzn.out; omega, by go_num, a8⟩, by have := Hzn.out; simp [intOf]; omega⟩
      · have g1 : decide (z ≤ (n : Int)) = false := decide_eq_false hle
        have hb := (hAsk.out _ ar.out).1
        clear k1 k2
        go_wp2
        go_ret
        exact ⟨rfl, hb⟩
theorem alike_any (p : Option Addr) (t : TrS) (A : Option Addr) (n c : Nat) (key : ByteArray) (w : World) (hI : Is Value.string 98 w p t) (hr : Rd w w.heap.size 2 A n (t.ents.flatMap enV)) (hs : Sorted cmpS t.ents) (hn : n ≤ 500) :
    Calls Try.prog 9 #[.agg #[.pointer p], .slice A n c, .string key] w fun e w' => e = .returned (.bool true) ∧ Hid (Below w.heap.size w w') := by
  rcases Nat.eq_zero_or_pos n with h | h
  · exact alike_zero p t A n c key w hI hr hs hn h
  · obtain ⟨b, off, rfl, _, _⟩ := hr.pos h
    exact alike_pos p t b off n c key w hI hr hs hn
end Go.Proofs.Ytdffgkhlkbaecaa.Tok
