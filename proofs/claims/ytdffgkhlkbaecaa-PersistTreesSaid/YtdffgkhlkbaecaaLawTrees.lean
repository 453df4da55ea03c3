/- The law of trees: every way through it returns true. -/
import Derived.Test.YtdffgkhlkbaecaaTwoRows
import Derived.Deep.RegionHeldLaw
namespace Go.Proofs.Ytdffgkhlkbaecaa.Tok
open Go.RowKit Go.Proofs.Ytdffgkhlkbaecaa
open Tr (Sorted CmpOk lows highs)

/-- The trees and the lists made so far. -/
structure TRel (w : World) (os : List OpT) (k : Nat) (v v' : Value) (ps : List (Option Addr)) (ts : List TrS) (vs : List Value) (wr : World) : Prop where
  dep : DepRel w os k v ps ts wr
  own : wr.ownsRow w.heap.size 33 1 v' (k + 1) vs
  all : AllE wr vs (ts.map Tr.ents)
theorem TRel.sizes {w : World} {os : List OpT} {k : Nat} {v v' : Value} {ps : List (Option Addr)} {ts : List TrS} {vs : List Value} {wr : World} (h : TRel w os k v v' ps ts vs wr) (hk : k ≤ 120) : ∀ t ∈ ts, t.size ≤ 500 := fun t ht => by
  have h1 := (h.dep.fine t ht).le
  have h2 := keysTo_len os k
  omega
theorem TRel.sorted {w : World} {os : List OpT} {k : Nat} {v v' : Value} {ps : List (Option Addr)} {ts : List TrS} {vs : List Value} {wr : World} (h : TRel w os k v v' ps ts vs wr) : ∀ t ∈ ts, Sorted cmpS t.ents := fun t ht => (h.dep.fine t ht).srt
theorem TRel.below {w : World} {os : List OpT} {k : Nat} {v v' : Value} {ps : List (Option Addr)} {ts : List TrS} {vs : List Value} {wr wx : World} (h : TRel w os k v v' ps ts vs wr) (hb : Below wr.heap.size wr wx) : TRel w os k v v' ps ts vs wx :=
  ⟨⟨own_below h.dep.own hb, ⟨h.dep.all.1, fun k p t a b => (h.dep.all.2 k p t a b).below hb⟩, h.dep.fine, h.dep.bel.trans (hb.mono h.dep.bel.size)⟩, own_below h.own hb, ⟨h.all.1, fun k v L a b => (h.all.2 k v L a b).below hb⟩⟩
theorem TRel.start (w : World) (os : List OpT) (w1 : World) (hb : Below w.heap.size w w1) :
    TRel w os 0 (.slice (some ⟨w1.heap.size, 0, none⟩) 1 1) (.slice (some ⟨w1.heap.size + 1, 0, none⟩) 1 1) [none] [.nil] [.slice none 0 0] ((w1.alloc (.cells #[.pointer none] 27)).alloc (.cells #[.slice none 0 0] 33)) where
  dep := by
    have h := DepRel.start w os w1 hb hb.size
    have ha : Below (w1.alloc (.cells #[.pointer none] 27)).heap.size (w1.alloc (.cells #[.pointer none] 27)) ((w1.alloc (.cells #[.pointer none] 27)).alloc (.cells #[.slice none 0 0] 33)) := (Below.refl _ _).alloc (Nat.le_refl _) _
    exact ⟨own_below h.own ha, ⟨h.all.1, fun k p t a b => (h.all.2 k p t a b).below ha⟩, h.fine, h.bel.trans (ha.mono h.bel.size)⟩
  own := by
    have := World.ownsRow_lit (base := w.heap.size) (e := 33) (size := 1) (w1.alloc (.cells #[.pointer none] 27)) #[.slice none 0 0] 1 (by have := hb.size; simp; omega) (by decide) (by simp)
    rw [show (w1.alloc (.cells #[.pointer none] 27)).heap.size = w1.heap.size + 1 by simp] at this
    exact this
  all := ⟨rfl, fun k v L hv hL => by
    cases k with
    | zero => simp [Tr.ents] at hv hL; subst hv hL; exact OwE.nil _
    | succ k => simp at hv⟩
/-- What a step starts with. -/
theorem TRel.st {w : World} {os : List OpT} {k : Nat} {v v' : Value} {ps : List (Option Addr)} {ts : List TrS} {vs : List Value} {wr : World} (h : TRel w os k v v' ps ts vs wr) (bx : Array Value) (T : TrS) (E : EntL) :
    Hid (St w wr.heap.size bx v v' (k + 1) ps ts vs T E none none none none none none (wr.alloc (.cells bx 31))) := by
  have ha : Below wr.heap.size wr (wr.alloc (.cells bx 31)) := (Below.refl _ _).alloc (Nat.le_refl _) _
  have h' := h.below ha
  exact ⟨h'.dep.bel, heap_alloc_new _ _, h'.dep.all, h'.all, fun _ => h'.dep.own, fun r e => (by cases e), fun B e => (by cases e), fun v e => (by cases e), fun _ => h'.own, fun v e => (by cases e), fun B e => (by cases e), fun v e => (by cases e)⟩
/-- And what it ends with. -/
theorem TRel.next {w : World} {os : List OpT} {k q : Nat} {bx : Array Value} {v v' u u' x : Value} {r : Option Addr} {ps : List (Option Addr)} {ts : List TrS} {vs : List Value} {wr X : World} (h : Hid (TRel w os k v v' ps ts vs wr)) (hk : k < os.length)
    (hS : Hid (St w q bx v v' (k + 1) ps ts vs (stepV ts os[k]) (stepE ts os[k]) (some r) none (some u) (some x) none (some u') X)) : Hid (TRel w os (k + 1) u u' (ps ++ [r]) (ts ++ [stepV ts os[k]]) (vs ++ [x]) X) := by
  have hfine := h.out.dep.step hk
  obtain ⟨r', e, ho⟩ := hS.out.l3 u rfl
  injection e with e
  subst e
  obtain ⟨x', e, ho'⟩ := hS.out.m3 u' rfl
  injection e with e
  subst e
  have hlp := h.out.dep.all.1
  have hlv := h.out.all.1
  have hat : Sorted cmpS (atT ts os[k].tree).ents := by
    unfold atT
    cases hx : ts[os[k].tree % ts.length]? with
    | none => exact List.Pairwise.nil
    | some t => exact h.out.sorted t (List.mem_of_getElem? hx)
  refine ⟨⟨by rw [List.map_append]; exact ho, ⟨by rw [List.length_append, List.length_append, hlp]; rfl, fun i p t hp ht => ?_⟩, fun t ht => ?_, hS.out.bel⟩, ho', ⟨by rw [List.length_append, List.length_map, List.length_append, hlv, List.length_map]; rfl, fun i y L hy hL => ?_⟩⟩
  · rcases Nat.lt_or_ge i ps.length with h1 | h1
    · rw [List.getElem?_append_left h1] at hp
      rw [List.getElem?_append_left (by omega)] at ht
      exact hS.out.trees.2 i p t hp ht
    · rw [List.getElem?_append_right h1] at hp
      rw [List.getElem?_append_right (by omega)] at ht
      have hi : i - ps.length = 0 := by have := (List.getElem?_eq_some_iff.1 hp).1; simp at this; omega
      rw [hi] at hp
      rw [← hlp, hi] at ht
      simp at hp ht
      subst hp ht
      exact hS.out.l1 _ rfl
  · rcases List.mem_append.1 ht with h1 | h1
    · rw [keysTo_succ os k hk]; exact (h.out.dep.fine t h1).more _
    · simp at h1; subst h1; exact hfine
  · rw [List.length_map] at hlv
    rw [List.map_append] at hL
    rcases Nat.lt_or_ge i vs.length with h1 | h1
    · rw [List.getElem?_append_left h1] at hy
      rw [List.getElem?_append_left (by rw [List.length_map]; omega)] at hL
      exact hS.out.lists.2 i y L hy hL
    · rw [List.getElem?_append_right h1] at hy
      rw [List.getElem?_append_right (by rw [List.length_map]; omega), List.length_map] at hL
      have hi : i - vs.length = 0 := by have := (List.getElem?_eq_some_iff.1 hy).1; simp at this; omega
      rw [hi] at hy
      rw [← hlv, hi] at hL
      simp at hy hL
      subst hy hL
      rw [stepE_eq ts os[k] hat]
      exact hS.out.m1 _ rfl

set_option maxHeartbeats 3200000 in
set_option maxRecDepth 8000 in
theorem law_trees (A : Option Addr) (m hc : Nat) (os : List OpT) (w : World) (hq : ∀ o ∈ os, OpOk o) (hh : Rd w w.heap.size 5 A m (os.flatMap opV)) :
    Calls Try.prog 3 #[.slice A m hc] w fun e w' => e = .returned (.bool true) ∧ Below w.heap.size w w' := by
  have hlen : os.length = m := by have := hh.len; rw [flatN_len 5 opV (fun _ => rfl)] at this; omega
  have Hlen := Lib.hid hlen
  have Hh := Lib.hid hh
  have Hq := Lib.hid hq
  clear hlen hq
  have HF := Lib.hid (few_any A m hc os w (fun _ => hh))
  clear hh
  go_enter Try.func3, Try.ntmps3
  go_wp2_with fail
  refine (HF.out).mono ?_
  rintro e w1 ⟨⟨b, rfl, hb120⟩, hb1⟩
  have Hb1 := Lib.hid hb1
  cases b with
  | false =>
    clear hb1 hb120
    go_wp2_with fail
    refine (awake12_any w1).mono ?_
    rintro e w2 ⟨rfl, hb2⟩
    have Hb2 := Lib.hid (Hb1.out.trans (hb2.mono Hb1.out.size))
    clear hb2
    go_wp2
    go_ret
    exact ⟨rfl, Hb2.out⟩
  | true =>
    have hm := hb120 rfl
    clear hb120 hb1
    have Hstart := Lib.hid (TRel.start w os w1 Hb1.out)
    go_wp2
    go_loopw [3, 4, 18] (fun v v' i wr => ∃ (k : Nat) (ps : List (Option Addr)) (ts : List TrS) (vs : List Value), k ≤ m ∧ i = .int .i64 k ∧ Hid (TRel w os k v v' ps ts vs wr)) (fun _ _ i _ => m - (intOf i).toNat)
    case atStart => exact ⟨0, _, _, _, Nat.zero_le _, rfl, Hstart.out⟩
    case round =>
      clear Hstart
      obtain ⟨k, ps, ts, vs, hk, rfl, hrel⟩ := hrel
      obtain ⟨A3, c3, rfl⟩ := own_long hrel.out.dep.own
      obtain ⟨A4, c4, rfl⟩ := own_long hrel.out.own
      by_cases hlt : k < m
      · obtain ⟨b, off, rfl, hbb, hcc⟩ := Hh.out.pos (by omega)
        have hk1 : k < os.length := by have := Hlen.out; omega
        have hcell0 := (hrel.out.dep.bel.cell (p := ⟨b, off + k * 5, none⟩) hbb).trans (hcc (k * 5) _ ((flatN 5 opV (fun _ => rfl) os k 0 hk1 (by omega)).trans rfl))
        have hcell1 := (hrel.out.dep.bel.cell (p := ⟨b, off + (k * 5 + 1), none⟩) hbb).trans (hcc (k * 5 + 1) _ ((flatN 5 opV (fun _ => rfl) os k 1 hk1 (by omega)).trans rfl))
        have hcell2 := (hrel.out.dep.bel.cell (p := ⟨b, off + (k * 5 + 2), none⟩) hbb).trans (hcc (k * 5 + 2) _ ((flatN 5 opV (fun _ => rfl) os k 2 hk1 (by omega)).trans rfl))
        have hcell3 := (hrel.out.dep.bel.cell (p := ⟨b, off + (k * 5 + 3), none⟩) hbb).trans (hcc (k * 5 + 3) _ ((flatN 5 opV (fun _ => rfl) os k 3 hk1 (by omega)).trans rfl))
        have hcell4 := (hrel.out.dep.bel.cell (p := ⟨b, off + (k * 5 + 4), none⟩) hbb).trans (hcc (k * 5 + 4) _ ((flatN 5 opV (fun _ => rfl) os k 4 hk1 (by omega)).trans rfl))
        rw [← Nat.add_assoc] at hcell1 hcell2 hcell3 hcell4
        have Hox := Lib.hid (Hq.out _ (List.getElem_mem hk1))
        have hz := Lib.hid (hrel.out.sizes (by omega))
        have hsr := Lib.hid hrel.out.sorted
        have HN : Hid (∀ (u u' x : Value) (r : Option Addr) (X : World) (q : Nat) (bx : Array Value), Hid (St w q bx (.slice A3 (k + 1) c3) (.slice A4 (k + 1) c4) (k + 1) ps ts vs (stepV ts os[k]) (stepE ts os[k]) (some r) none (some u) (some x) none (some u') X) → Hid (TRel w os (k + 1) u u' (ps ++ [r]) (ts ++ [stepV ts os[k]]) (vs ++ [x]) X)) := fun u u' x r X q bx h => TRel.next hrel hk1 h
        have hS := hrel.out.st #[.int .u8 os[k].kind, .int .u8 os[k].tree, .int .u8 os[k].other, .string os[k].key, .int .i64 os[k].val] (stepV ts os[k]) (stepE ts os[k])
        have H25 : Hid (∀ q bx a2 b2 c2 X, Hid (St w q bx (.slice A3 (k + 1) c3) (.slice A4 (k + 1) c4) (k + 1) ps ts vs (stepV ts os[k]) (stepE ts os[k]) none none none a2 b2 c2 X) → _) := fun q bx a2 b2 c2 X h => St.step25 h os[k] rfl (by omega) (by omega) hz.out Hox.out
        have H31 : Hid (∀ q bx a1 b1 c1 X, Hid (St w q bx (.slice A3 (k + 1) c3) (.slice A4 (k + 1) c4) (k + 1) ps ts vs (stepV ts os[k]) (stepE ts os[k]) a1 b1 c1 none none none X) → _) := fun q bx a1 b1 c1 X h => St.step31 h os[k] rfl (by omega) (by omega) hz.out hsr.out Hox.out
        generalize stepV ts os[k] = T at *
        generalize stepE ts os[k] = E at *
        obtain ⟨x, hx⟩ : ∃ x, x = os[k] := ⟨_, rfl⟩
        rw [← hx] at hcell0 hcell1 hcell2 hcell3 hcell4 Hox hS H25 H31
        clear hx hcc Hox hz hsr
        obtain ⟨xk, xt, xq, xs, xv⟩ := x
        simp only at hcell0 hcell1 hcell2 hcell3 hcell4 hS H25 H31
        go_upto_region 7 with fail
        have hS := Lib.hid (hS.out.below ((Below.refl _ _).drew))
        clear hcell0 hcell1 hcell2 hcell3 hcell4
        go_region_held_law (fun w' => w'.cell? ⟨wr.heap.size, 0, none⟩ = some (.int .u8 xk) ∧ w'.cell? ⟨wr.heap.size, 1, none⟩ = some (.int .u8 xt) ∧ w'.cell? ⟨wr.heap.size, 2, none⟩ = some (.int .u8 xq) ∧ w'.cell? ⟨wr.heap.size, 3, none⟩ = some (.string xs) ∧ w'.cell? ⟨wr.heap.size, 4, none⟩ = some (.int .i64 xv))
          (first | exact St.cells hS | exact St.cells (St.lit1 hS) | exact St.cells (St.lit2 hS) | exact St.cells (St.lit2 (St.lit1 hS)) | exact St.cells (St.lit1 (St.lit2 hS)))
          (first
            | (go_at_call 7; (with_reducible refine (H25.out _ _ _ _ _ _ hS).mono ?_); rintro e X5 ⟨r5, rfl, hS⟩)
            | (go_at_call 7; (with_reducible refine (H25.out _ _ _ _ _ _ (St.lit2 hS)).mono ?_); rintro e X5 ⟨r5, rfl, hS⟩)
            | (go_at_call 8; (with_reducible refine (H31.out _ _ _ _ _ _ hS).mono ?_); rintro e X6 ⟨x6, rfl, hS⟩; obtain ⟨A6, c6, rfl, -⟩ := (hS.out.m1 _ rfl).rd)
            | (go_at_call 8; (with_reducible refine (H31.out _ _ _ _ _ _ (St.lit1 hS)).mono ?_); rintro e X6 ⟨x6, rfl, hS⟩; obtain ⟨A6, c6, rfl, -⟩ := (hS.out.m1 _ rfl).rd)
            | (refine St.step27 (by first | exact hS | exact (St.lit1 hS) | exact (St.lit2 hS) | exact (St.lit2 (St.lit1 hS)) | exact (St.lit1 (St.lit2 hS))) (by omega) (by rfl) (.tmp 22) (.tmp 26) _ (by rfl) Try.underlying28 (by rfl) (by rfl) (by first | rfl | simp) ?_; intro A7 c7 X7 hS)
            | (refine St.step33 (by first | exact hS | exact (St.lit1 hS) | exact (St.lit2 hS) | exact (St.lit2 (St.lit1 hS)) | exact (St.lit1 (St.lit2 hS))) (by omega) (by rfl) (.tmp 28) (.tmp 32) _ (by rfl) Try.underlying29 (by rfl) (by rfl) (by first | rfl | simp) ?_; intro A8 c8 X8 hS))
        all_goals
          go_wp2_with fail
          go_light
          exact ⟨⟨k + 1, _, _, _, by omega, by go_num, HN.out _ _ _ _ _ _ _ hS⟩, by simp [intOf]; omega⟩
      · obtain rfl : k = m := by omega
        obtain ⟨hl1, hl2⟩ := hrel.out.dep.len
        have hlv := hrel.out.all.1
        rw [List.length_map] at hlv
        obtain ⟨ga, rfl, -, hga⟩ := own_at hrel.out.dep.own (by omega)
        obtain ⟨gm, rfl, -, hgm⟩ := own_at hrel.out.own (by omega)
        have HJ : Hid (∀ (j : Nat) (wx : World), j < k + 1 → Below wr.heap.size wr wx → ∃ (p : Option Addr) (Aj : Option Addr) (nj cj : Nat), wx.cell? ⟨ga, j, none⟩ = some (.pointer p) ∧ wx.cell? ⟨gm, j, none⟩ = some (.slice Aj nj cj) ∧ ga < wx.heap.size ∧ gm < wx.heap.size ∧
            Hid (∀ key W, Below wx.heap.size wx W → Calls Try.prog 9 #[.agg #[.pointer p], .slice Aj nj cj, .string key] W fun e w' => e = .returned (.bool true) ∧ Below wx.heap.size wx w')) := fun j wx hj hb => by
          have hx := hrel.out.below hb
          obtain ⟨p, hp⟩ : ∃ p, ps[j]? = some p := ⟨_, List.getElem?_eq_getElem (by omega)⟩
          obtain ⟨t, ht⟩ : ∃ t, ts[j]? = some t := ⟨_, List.getElem?_eq_getElem (by omega)⟩
          obtain ⟨y, hy⟩ : ∃ y, vs[j]? = some y := ⟨_, List.getElem?_eq_getElem (by omega)⟩
          have hI := hx.dep.all.2 j p t hp ht
          obtain ⟨Aj, cj, rfl, hcap, hrd⟩ := (hx.all.2 j y t.ents hy (by rw [List.getElem?_map, ht]; rfl)).rd
          have hz := hx.sizes hm t (List.mem_of_getElem? ht)
          have hs := hx.sorted t (List.mem_of_getElem? ht)
          have hbs := hb.size
          refine ⟨p, Aj, t.ents.length, cj, (hx.dep.own.cellAt j (by omega)).trans (by rw [List.getElem?_map, hp]; rfl), (hx.own.cellAt j (by omega)).trans hy, by omega, by omega, fun key W hW => ?_⟩
          refine (alike_any p t Aj t.ents.length cj key W (hI.below hW) ((hrd.below hW).more hW.size) hs (by rw [Tr.ents_len]; omega)).mono ?_
          rintro e w' ⟨h1, h2⟩
          exact ⟨h1, hW.trans (h2.out.mono hW.size)⟩
        have Hbw := Lib.hid hrel.out.dep.bel
        clear hlt hrel hl1 hl2 hlv hga hgm
        go_wp2
        go_loopw [37] (fun i wx => ∃ j : Nat, j ≤ k + 1 ∧ i = .int .i64 j ∧ Hid (Below wr.heap.size wr wx)) (fun i _ => k + 1 - (intOf i).toNat)
        case atStart => exact ⟨0, by omega, rfl, Below.refl _ _⟩
        case round =>
          obtain ⟨j, hj, rfl, hbx⟩ := hrel
          by_cases hjk : j < k + 1
          · obtain ⟨p, Aj, nj, cj, cl, cm, hla, hlm, HAl⟩ := HJ.out j _ hjk hbx.out
            by_cases h0 : j = 0
            · subst h0
              go_upto_region 15 with fail
              have Hdr := Lib.hid ((Below.refl wr.heap.size wr).drew)
              go_region_held3 (fun w' => w'.cell? ⟨ga, 0, none⟩ = some (.pointer p) ∧ w'.cell? ⟨gm, 0, none⟩ = some (.slice Aj nj cj)) (first | exact ⟨cl, cm⟩ | exact ⟨(hb1.cell (p := ⟨ga, 0, none⟩) hla).trans cl, (hb1.cell (p := ⟨gm, 0, none⟩) hlm).trans cm⟩)
                ((go_at_call 9; (with_reducible refine (HAl.out _ _ Hdr.out).mono ?_); rintro e x1 ⟨rfl, hb1⟩))
              all_goals
                have Hbz := Lib.hid (hbx.out.trans (hb1.mono hbx.out.size))
                clear hb1
                go_wp2
                go_light
                exact ⟨⟨0 + 1, by omega, by go_num, Hbz.out⟩, by simp [intOf]⟩
            · obtain ⟨i, rfl⟩ : ∃ i, j = i + 1 := ⟨j - 1, by omega⟩
              obtain ⟨b, off, rfl, hbb, hcc⟩ := Hh.out.pos (by omega)
              have hi1 : i < os.length := by have := Hlen.out; omega
              have hck := ((Hbw.out.trans (hbx.out.mono Hbw.out.size)).cell (p := ⟨b, off + (i * 5 + 3), none⟩) hbb).trans (hcc (i * 5 + 3) _ ((flatN 5 opV (fun _ => rfl) os i 3 hi1 (by omega)).trans rfl))
              rw [← Nat.add_assoc] at hck
              have hw1 : IntKind.i64.wrap (((i + 1 : Nat) : Int) - 1) = (i : Int) := (IntWalk.i64_in _ (by omega)).trans (by omega)
              have g1 : decide ((0 : Int) < ((i + 1 : Nat) : Int)) = true := decide_eq_true (by omega)
              have hik : i < k := by omega
              have hx1 : (0 : Int) ≤ (i : Int) + 1 := by omega
              have hx2 : (i : Int) + 1 < (k : Int) + 1 := by omega
              have hx3 : (i : Int) < (k : Int) := by omega
              have hx4 : ((i : Int) + 1).toNat = i + 1 := by omega
              generalize os[i] = x at hck
              obtain ⟨xk, xt, xq, xs, xv⟩ := x
              simp only at hck
              clear hcc hi1
              go_upto_region 15 with fail
              have Hdr := Lib.hid ((Below.refl wr.heap.size wr).drew)
              clear hck g1 hw1
              go_region_held3 (fun w' => w'.cell? ⟨ga, (i + 1), none⟩ = some (.pointer p) ∧ w'.cell? ⟨gm, (i + 1), none⟩ = some (.slice Aj nj cj)) (first | exact ⟨cl, cm⟩ | exact ⟨(hb1.cell (p := ⟨ga, (i + 1), none⟩) hla).trans cl, (hb1.cell (p := ⟨gm, (i + 1), none⟩) hlm).trans cm⟩)
                ((go_at_call 9; (with_reducible refine (HAl.out _ _ Hdr.out).mono ?_); rintro e x1 ⟨rfl, hb1⟩))
              all_goals
                have Hbz := Lib.hid (hbx.out.trans (hb1.mono hbx.out.size))
                clear hb1
                go_wp2
                go_light
                exact ⟨⟨i + 1 + 1, by omega, by go_num, Hbz.out⟩, by simp [intOf]; omega⟩
          · obtain rfl : j = k + 1 := by omega
            go_wp2_with fail
            refine (awake12_any _).mono ?_
            rintro e w9 ⟨rfl, hb9⟩
            have Hb9 := Lib.hid (Hbw.out.trans ((hbx.out.trans (hb9.mono hbx.out.size)).mono Hbw.out.size))
            clear hb9
            go_wp2
            go_ret
            exact ⟨rfl, Hb9.out⟩
end Go.Proofs.Ytdffgkhlkbaecaa.Tok
