/- A step of the reference: a list made of those that are there. -/
import Derived.Test.YtdffgkhlkbaecaaRTree3
import Derived.Test.YtdffgkhlkbaecaaRTree4
import Derived.Test.YtdffgkhlkbaecaaRTree5
namespace Go.Proofs.Ytdffgkhlkbaecaa.Tok
open Go.RowKit Go.Proofs.Ytdffgkhlkbaecaa
open Tr (Sorted CmpOk lows highs)

theorem OwE.rd {w : World} {v : Value} {L : EntL} (h : OwE w v L) : ∃ A c, v = .slice A L.length c ∧ L.length ≤ c ∧ Rd w w.heap.size 2 A L.length (L.flatMap enV) := by
  obtain ⟨b, h⟩ := h
  rcases h.2 with ⟨rfl, h2⟩ | ⟨g, cap, cur, rfl, k1, k2, k3, _⟩
  · rw [h2]; exact ⟨none, 0, rfl, Nat.le_refl _, by rw [h2] at h; exact Rd.own h⟩
  · exact ⟨_, _, rfl, k3, Rd.own h⟩
theorem OwE.nil (w : World) : OwE w (.slice none 0 0) [] := ⟨0, World.ownsRow_nil _ _ _ _⟩
/-- Lists whose values stand in a row. -/
def AllE (w : World) (vs : List Value) (Ls : List EntL) : Prop := vs.length = Ls.length ∧ ∀ (k : Nat) (v : Value) (L : EntL), vs[k]? = some v → Ls[k]? = some L → OwE w v L

set_option maxHeartbeats 3200000 in
set_option maxRecDepth 8000 in
theorem model_any (A : Option Addr) (n c : Nat) (vs : List Value) (ts : List TrS) (o : OpT) (w : World) (hn0 : 0 < n) (hr : Rd w w.heap.size 1 A n vs) (hvs : AllE w vs (ts.map Tr.ents)) (hz : ∀ t ∈ ts, t.size ≤ 500) (hs : ∀ t ∈ ts, Sorted cmpS t.ents) (hn : n ≤ 1000) (hkd : o.kind ≤ 255) (htr : o.tree ≤ 255) (hot : o.other ≤ 255) :
    Calls Try.prog 8 #[.slice A n c, .agg #[.int .u8 o.kind, .int .u8 o.tree, .int .u8 o.other, .string o.key, .int .i64 o.val]] w fun e w' => ∃ v, e = .returned v ∧ Hid (OwE w' v (stepE ts o)) ∧ Hid (Below w.heap.size w w') := by
  have hlen : vs.length = n := by have := hr.len; simpa using this
  obtain ⟨hl2, hown⟩ := hvs
  rw [List.length_map] at hl2
  obtain ⟨b, off, rfl, hbb, hcc⟩ := hr.pos hn0
  obtain ⟨kd, tr, ot, key, val⟩ := o
  simp only at hkd htr hot ⊢
  have h1 : tr % n < vs.length := by rw [hlen]; exact Nat.mod_lt _ hn0
  have h2 : ot % n < vs.length := by rw [hlen]; exact Nat.mod_lt _ hn0
  have h1' : tr % n < ts.length := by omega
  have h2' : ot % n < ts.length := by omega
  have hc1 := hcc (tr % n) vs[tr % n] (List.getElem?_eq_getElem h1)
  have hc2 := hcc (ot % n) vs[ot % n] (List.getElem?_eq_getElem h2)
  have ht := hown _ _ _ (List.getElem?_eq_getElem h1) (by rw [List.getElem?_map, List.getElem?_eq_getElem h1']; rfl)
  have hu := hown _ _ _ (List.getElem?_eq_getElem h2) (by rw [List.getElem?_map, List.getElem?_eq_getElem h2']; rfl)
  have zt := hz _ (List.getElem_mem h1')
  have zu := hz _ (List.getElem_mem h2')
  have st := hs _ (List.getElem_mem h1')
  have et : atT ts tr = ts[tr % n] := by unfold atT; rw [← hl2, hlen, List.getElem?_eq_getElem h1']; rfl
  have eu : atT ts ot = ts[ot % n] := by unfold atT; rw [← hl2, hlen, List.getElem?_eq_getElem h2']; rfl
  have hv : stepE ts ⟨kd, tr, ot, key, val⟩ = if kd % 8 < 3 then lows cmpS key ts[tr % n].ents ++ (key, val) :: highs cmpS key ts[tr % n].ents else if kd % 8 = 3 then lows cmpS key ts[tr % n].ents ++ highs cmpS key ts[tr % n].ents else if kd % 8 = 4 then lows cmpS key ts[tr % n].ents else if kd % 8 = 5 then highs cmpS key ts[tr % n].ents else if kd % 8 = 6 then (if joinB ts[tr % n].ents ts[ot % n].ents then [] else ts[tr % n].ents ++ ts[ot % n].ents) else ts[tr % n].ents := by
    unfold stepE
    simp only [et, eu, joinE]
  rw [← Tr.ents_len] at zt zu
  generalize stepE ts ⟨kd, tr, ot, key, val⟩ = R at hv ⊢
  generalize ts[tr % n].ents = L at *
  generalize ts[ot % n].ents = M at *
  generalize vs[tr % n] = v1 at *
  generalize vs[ot % n] = v2 at *
  clear et eu h1 h2 h1' h2' hl2 hz hcc hr hlen hown hs
  obtain ⟨ix, hix⟩ : ∃ ix, ix = tr % n := ⟨_, rfl⟩
  obtain ⟨iy, hiy⟩ : ∃ iy, iy = ot % n := ⟨_, rfl⟩
  have hxn : ix < n := by rw [hix]; exact Nat.mod_lt _ hn0
  have hyn : iy < n := by rw [hiy]; exact Nat.mod_lt _ hn0
  have hxm : ((tr : Int) % (n : Int)) = (ix : Int) := by rw [hix]; exact (Int.natCast_emod tr n).symm
  have hym : ((ot : Int) % (n : Int)) = (iy : Int) := by rw [hiy]; exact (Int.natCast_emod ot n).symm
  rw [← hix] at hc1
  rw [← hiy] at hc2
  clear hix hiy
  obtain ⟨A1, c1, rfl, hcap1, hr1⟩ := ht.rd
  obtain ⟨A2, c2, rfl, hcap2, hr2⟩ := hu.rd
  have HT := Lib.hid ht
  have St := Lib.hid st
  have Hcap1 := Lib.hid hcap1
  have HA : Hid (∀ W, Below w.heap.size w W → Rd W W.heap.size 2 A1 L.length (L.flatMap enV)) := fun W hb => (hr1.below hb).more hb.size
  have HB : Hid (∀ W, Below w.heap.size w W → Rd W W.heap.size 2 A2 M.length (M.flatMap enV)) := fun W hb => (hr2.below hb).more hb.size
  have HHv := Lib.hid hc2
  have Hym := Lib.hid hym
  have HvH := Lib.hid hv
  clear ht hu st hc2 hym hr1 hr2 hv hcap1 hcap2
  go_enter Try.func8, Try.ntmps8
  go_wp2_with fail
  generalize hwq : World.alloc w _ = wq
  have hbq : Below w.heap.size w wq := by subst hwq; exact (Below.refl _ _).alloc (Nat.le_refl _) _
  have hsq : wq.heap.size = w.heap.size + 1 := by subst hwq; simp
  have hr0 : wq.heap[w.heap.size]? = some (.cells #[.int .u8 kd, .int .u8 tr, .int .u8 ot, .string key, .int .i64 val] 31 (0, 0)) := by subst hwq; exact heap_alloc_new _ _
  clear hwq
  refine (rsplit_any A1 L.length c1 L key wq St.out (by omega) Hcap1.out (HA.out wq hbq)).mono ?_
  rintro e w1 ⟨p1, q1, rfl, i1, i2, hb1⟩
  have hb : Below w.heap.size w w1 := hbq.trans (hb1.out.mono hbq.size)
  have Hb := Lib.hid hb
  have a0 := (hb1.out.block w.heap.size (by omega)).trans hr0
  have d0 := (cell_of_row _ _ 0 _ _ _ a0).trans (rfl : _ = some (Value.int .u8 kd))
  have d2 := (cell_of_row _ _ 2 _ _ _ a0).trans (rfl : _ = some (Value.int .u8 ot))
  have d3 := (cell_of_row _ _ 3 _ _ _ a0).trans (rfl : _ = some (Value.string key))
  have d4 := (cell_of_row _ _ 4 _ _ _ a0).trans (rfl : _ = some (Value.int .i64 val))
  have d5 := (hb.cell (p := ⟨b, off + iy, none⟩) hbb).trans HHv.out
  have hbbw : b < w1.heap.size := by have := hb.size; omega
  have hl0 : w.heap.size < w1.heap.size := by have := hb1.out.size; omega
  have HP := Lib.hid (rput_any A1 L.length c1 L key val w1 St.out (by omega) Hcap1.out (HA.out w1 hb))
  have HD := Lib.hid (rdelete_any A1 L.length c1 L key w1 St.out (by omega) Hcap1.out (HA.out w1 hb))
  have HJ0 : Hid (joinB L M = false → _) := fun h => rjoin_no A1 A2 L.length c1 M.length c2 L M w1 (by omega) (by omega) (HA.out w1 hb) (HB.out w1 hb) h
  have HJ1 : Hid (joinB L M = true → _) := fun h => rjoin_yes A1 A2 L.length c1 M.length c2 L M w1 (by omega) (by omega) (HA.out w1 hb) (HB.out w1 hb) h
  clear hb1 hbq hsq hr0 a0 hb hc1
  obtain ⟨m, hm⟩ : ∃ m, m = kd % 8 := ⟨_, rfl⟩
  have hm8 : m < 8 := by omega
  have hmi : ((kd : Int) % 8) = (m : Int) := by omega
  rw [← hm] at HvH
  clear hm
  have hcs : m < 3 ∨ m = 3 ∨ m = 4 ∨ m = 5 ∨ m = 6 ∨ m = 7 := by omega
  rcases hcs with h | rfl | rfl | rfl | rfl | rfl
  · have HV := Lib.hid (show R = _ from HvH.out.trans (if_pos h))
    clear HvH
    have h012 : m = 0 ∨ m = 1 ∨ m = 2 := by omega
    clear h
    rcases h012 with rfl | rfl | rfl
    all_goals
      go_wp2_with fail
      refine (HP.out).mono ?_
      rintro e w3 ⟨v, rfl, hG⟩
      go_wp2
      go_ret
      exact ⟨v, rfl, by rw [HV.out]; exact hG.out.owE, Hb.out.trans (hG.out.bel.mono Hb.out.size)⟩
  · have HV := Lib.hid (show R = lows cmpS key L ++ highs cmpS key L by rw [HvH.out]; simp)
    clear HvH
    go_wp2_with fail
    refine (HD.out).mono ?_
    rintro e w3 ⟨v, rfl, hG⟩
    go_wp2
    go_ret
    exact ⟨v, rfl, by rw [HV.out]; exact hG.out.owE, Hb.out.trans (hG.out.bel.mono Hb.out.size)⟩
  · have HV := Lib.hid (show R = lows cmpS key L by rw [HvH.out]; simp)
    clear HvH
    go_wp2
    go_ret
    exact ⟨_, rfl, by rw [HV.out]; exact i1.out, Hb.out⟩
  · have HV := Lib.hid (show R = highs cmpS key L by rw [HvH.out]; simp)
    clear HvH
    go_wp2
    go_ret
    exact ⟨_, rfl, by rw [HV.out]; exact i2.out, Hb.out⟩
  · have HV := Lib.hid (show R = if joinB L M then [] else L ++ M by rw [HvH.out]; simp)
    clear HvH
    have hym := Hym.out
    cases hj : joinB L M with
    | false =>
      rw [hj] at HV
      have HC := Lib.hid (HJ0.out hj)
      clear hj HJ0 HJ1
      go_wp2_with fail
      refine (HC.out).mono ?_
      rintro e w3 ⟨v, rfl, hG, hbz⟩
      go_wp2
      go_ret
      exact ⟨v, rfl, by rw [HV.out]; exact hG.out, Hb.out.trans (hbz.out.mono Hb.out.size)⟩
    | true =>
      rw [hj] at HV
      have HC := Lib.hid (HJ1.out hj)
      clear hj HJ0 HJ1
      go_wp2_with fail
      refine (HC.out).mono ?_
      rintro e w3 ⟨rfl, hbz⟩
      go_wp2
      go_ret
      exact ⟨_, rfl, by rw [HV.out]; exact OwE.nil _, Hb.out.trans (hbz.out.mono Hb.out.size)⟩
  · have HV := Lib.hid (show R = L by rw [HvH.out]; simp)
    clear HvH
    go_wp2
    go_ret
    exact ⟨_, rfl, by rw [HV.out]; exact HT.out.below Hb.out, Hb.out⟩
end Go.Proofs.Ytdffgkhlkbaecaa.Tok
