/- Contract of Classes: the classes of the roots, in the order of their first numbers. -/
import Derived.Test.YtimgnmlcgnibhaaLists
import Derived.Maps.OwnSet
namespace Go.Proofs.Ytimgnmlcgnibhaa.Tok
open Go.RowKit Go.Proofs.Ytimgnmlcgnibhaa Go.Maps

theorem infoSl12 : (Try.prog.info? 50).map (fun i => (i.zero, i.size, i.bytes)) = some (some (.slice none 0 0), 1, 24) := by kernel_rfl
theorem infoIn12 : (Try.prog.info? 3).map (fun i => (i.zero, i.size, i.bytes)) = some (some (.int .i64 0), 1, 8) := by kernel_rfl
theorem keyInt12 : Keyed Try.prog 3 := int_keyed Try.underlying3
theorem zeroInt12 (w : World) : (zeroValue 3).run Try.prog w = .ok (.int .i64 0) w := by kernel_rfl
section
variable {base : Nat} {w w1 : World} {v : Value} {vs : List Value} {L : List (List Nat)} {H : Type} {K : TypeId} {R : Value → Option (DataW H × List MemPlace)} {D : DataW H} {B kk : Nat}
theorem map_apart (hm : w.ownsMap Try.prog K R B kk D) {b e z n : Nat} {x : Value} {xs : List Value} (ho : w.ownsRow b e z x n xs) : some B ≠ x.ownBlock := by
  obtain ⟨es, clock, hb, _⟩ := hm
  intro e1
  rcases ho.2 with ⟨rfl, _⟩ | ⟨g, cap, cur, rfl, _, h1, _⟩
  · cases e1
  · injection e1 with e1
    subst e1
    rw [hb] at h1
    cases h1
theorem Lists.mapped (h : Lists base w v vs L) (hm : w.ownsMap Try.prog K R B kk D) (hg : w.grownBy w1 (some B)) : Lists base w1 v vs L :=
  h.keep fun i hi ⟨cs, t, fr, hc⟩ => hg.block i hi (by
    intro e
    injection e with e
    subst e
    obtain ⟨es, clock, hb, _⟩ := hm
    rw [hc] at hb
    cases hb)
/-- One number is put into one of the lists. -/
theorem Lists.round {b n c : Nat} (h : Lists base w (.slice (some ⟨b, 0, Option.none⟩) n c) vs L) (hm : w.ownsMap Try.prog K R B kk D) (hz : base ≤ w.heap.size) {i g m cap : Nat} {x : Value} {l : List Nat} {a : Nat} (hx : vs[i]? = some x) (hl : L[i]? = some l)
    (hg : w.grownBy w1 x.ownBlock) (hml : m = l.length + 1) (ho : w1.ownsRow base 3 1 (.slice (some ⟨g, 0, Option.none⟩) m cap) m (nats l ++ [.int .i64 (a : Nat)])) (hat : x.ownBlock = some g ∨ w.heap.size ≤ g) :
    w1.cell? ⟨b, i, Option.none⟩ = some x ∧ w1.frozen? ⟨b, i, Option.none⟩ = false ∧
    Hid (∃ vs', Lists base (w1.setCell ⟨b, i, Option.none⟩ (.slice (some ⟨g, 0, Option.none⟩) m cap)) (.slice (some ⟨b, 0, Option.none⟩) n c) vs' (L.set i (l ++ [a]))) ∧
    Hid ((w1.setCell ⟨b, i, Option.none⟩ (.slice (some ⟨g, 0, Option.none⟩) m cap)).ownsMap Try.prog K R B kk D) ∧ Hid (Below base w (w1.setCell ⟨b, i, Option.none⟩ (.slice (some ⟨g, 0, Option.none⟩) m cap))) := by
  have hi := (List.getElem?_eq_some_iff.1 hx).1
  have hin := h.ins i x l hx hl
  have hn : n = L.length := by
    rcases h.out.2 with ⟨h1, _⟩ | ⟨g', cap', cur', h1, _⟩
    · cases h1
    · injection h1
  have hout := h.out
  rw [← hn] at hout
  have hb := hout.lt b rfl
  have hbx : some b ≠ x.ownBlock := by
    rcases own_types hout hin (by decide) with h1 | h1
    · cases h1
    · exact h1
  have hlen := h.len
  have hj : i < n * 1 := by omega
  refine ⟨?_, ?_, ⟨_, h.put hx hl hg (l' := l ++ [a]) (by
      have hl1 : (l ++ [a]).length = m := by simp [hml]
      rw [hl1, ← nats_snoc]
      exact ho) hat⟩, ?_, ?_⟩
  · rw [hg.cell_far ⟨b, i, Option.none⟩ hb.2 hbx, hout.cellAt i hj]
    exact hx
  · rw [hg.frozen_far ⟨b, i, Option.none⟩ hb.2 hbx]
    exact hout.frozenAt i
  · have h1 := hm.kept hg (map_apart hm hin)
    refine h1.setCell ?_ _
    intro e
    have := map_apart hm hout
    exact this (by rw [e]; rfl)
  · exact ((Below.refl base w).grown hg hz (fun q hq => (hin.lt q hq).1)).setCell hb.1 _
theorem Lists.roundA {b n c : Nat} {o : Obj} (h : Lists base w (.slice (some ⟨b, 0, Option.none⟩) n c) vs L) (hm : w.ownsMap Try.prog K R B kk D) (hz : base ≤ w.heap.size) {i g m cap : Nat} {x : Value} {l : List Nat} {a : Nat} (hx : vs[i]? = some x) (hl : L[i]? = some l)
    (hg : (w.alloc o).grownBy w1 x.ownBlock) (hml : m = l.length + 1) (ho : w1.ownsRow base 3 1 (.slice (some ⟨g, 0, Option.none⟩) m cap) m (nats l ++ [.int .i64 (a : Nat)])) (hat : x.ownBlock = some g ∨ g = w.heap.size + 1) :
    w1.cell? ⟨b, i, Option.none⟩ = some x ∧ w1.frozen? ⟨b, i, Option.none⟩ = false ∧
    Hid (∃ vs', Lists base (w1.setCell ⟨b, i, Option.none⟩ (.slice (some ⟨g, 0, Option.none⟩) m cap)) (.slice (some ⟨b, 0, Option.none⟩) n c) vs' (L.set i (l ++ [a]))) ∧
    Hid ((w1.setCell ⟨b, i, Option.none⟩ (.slice (some ⟨g, 0, Option.none⟩) m cap)).ownsMap Try.prog K R B kk D) ∧ Hid (Below base w (w1.setCell ⟨b, i, Option.none⟩ (.slice (some ⟨g, 0, Option.none⟩) m cap))) :=
  h.round hm hz hx hl ((World.grownBy_alloc w o _).trans hg) hml ho (hat.imp id fun e => by omega)
theorem Lists.moreA {A : Option Addr} {n c g cap : Nat} {o : Obj} (h : Lists base w (.slice A n c) vs L) (hm : w.ownsMap Try.prog K R B kk D) (hz : base ≤ w.heap.size) (hn : n = L.length) (hg : (w.alloc o).grownBy w1 (Value.slice A n c).ownBlock)
    (ho : w1.ownsRow base 50 1 (.slice (some ⟨g, 0, Option.none⟩) (n + 1) cap) (n + 1) (vs ++ [.slice Option.none 0 0])) :
    Hid (Lists base w1 (.slice (some ⟨g, 0, Option.none⟩) (n + 1) cap) (vs ++ [.slice Option.none 0 0]) (L ++ [[]])) ∧ Hid (w1.ownsMap Try.prog K R B kk D) ∧ Hid (Below base w w1) ∧ base ≤ w1.heap.size ∧
    w1.cell? ⟨g, n, Option.none⟩ = some (.slice Option.none 0 0) ∧ (vs ++ [.slice Option.none 0 0])[n]? = some (.slice Option.none 0 0) ∧ (L ++ [[]])[n]? = some [] := by
  have hg' := (World.grownBy_alloc w o (Value.slice A n c).ownBlock).trans hg
  subst hn
  have hl := h.len
  have e1 : (vs ++ [Value.slice Option.none 0 0])[L.length]? = some (.slice Option.none 0 0) := by
    rw [List.getElem?_append_right (by omega), hl, Nat.sub_self]
    rfl
  refine ⟨h.more hg' ho, hm.kept hg' (map_apart hm h.out), (Below.refl base w).grown hg' hz (fun q hq => (h.out.lt q hq).1), by have := hg'.size; omega, (ho.cellAt L.length (by omega)).trans e1, e1, by simp⟩
end
set_option maxHeartbeats 3200000 in
set_option maxRecDepth 8000 in
theorem classes_any {base : Nat} (g n : Nat) (E : List El) (U : List (Nat × Nat)) (w : World) (h : IsSets base w g E U) (ok : Ok E) (hn : E.length = n) (hE : n ≤ 10000) :
    Calls Try.prog 45 #[.pointer (some ⟨g, 0, none⟩)] w fun e w' => ∃ v, e = .returned v ∧ (∃ vs, Lists w.heap.size w' v vs (cls (root E) n)) ∧ Below w.heap.size w w' := by
  obtain ⟨eb, A, c, -, -, -, hrow, c0, -, -, -⟩ := h.parts
  rw [hn] at c0
  have hgs := (Array.getElem?_eq_some_iff.1 hrow).1
  have HS := Lib.hid h
  have OK := Lib.hid ok
  have Hn := Lib.hid hn
  obtain ⟨i0, hi0, iz0, iz1, iz2⟩ := info_parts infoSl12
  obtain ⟨i1, hi1, jz0, jz1, jz2⟩ := info_parts infoIn12
  have hmm := @run_makeMap Try.prog
  clear h ok hrow hn
  go_enter Try.func45, Try.ntmps45
  go_wp2
  clear hmm c0
  go_loopw [3, 17] (fun lv iv wr => ∃ (k : Nat) (D : DataW Unit) (u : Value), k ≤ n ∧ lv = u ∧ iv = .int .i64 k ∧ Hid (∃ vs, Lists w.heap.size wr u vs (cls (root E) k)) ∧ Hid (wr.ownsMap Try.prog 3 (plainElem Try.prog 3) w.heap.size k D) ∧ Hid (PlcD D (firsts (root E) k)) ∧ Below w.heap.size w wr) (fun _ i _ => n - (intOf i).toNat)
  case atStart => exact ⟨0, .map [], _, Nat.zero_le _, rfl, rfl, ⟨[], Lists.none _ _⟩, World.ownsMap_made _ _ _ _, PlcD.none, (Below.refl _ _).alloc (Nat.le_refl _) _⟩
  case round =>
    obtain ⟨k, D, lv, hk, hlv, rfl, hls, hmp, hpl, hb⟩ := hrel
    obtain rfl := hlv.symm
    clear hlv
    obtain ⟨vs, hl⟩ := hls.out
    have hz := hb.size
    by_cases hlt : k < n
    · have HR : Hid (Calls Try.prog 83 #[.pointer (some ⟨g, 0, none⟩), .int .i64 k] wr fun e w' => e = .returned (.int .i64 (root E k : Nat)) ∧ w' = wr) :=
        rootS_any k g E U wr (HS.out.below hb) OK.out (by have := Hn.out; omega)
      have hrn : root E k < 10000 := by
        obtain ⟨h1, _⟩ := root_ok OK.out (show k < E.length by have := Hn.out; omega)
        have := Hn.out
        omega
      obtain ⟨r, hr⟩ : ∃ r, r = root E k := ⟨_, rfl⟩
      rw [← hr] at HR hrn
      have hkey : keyOf Try.prog 3 (.int .i64 (r : Nat)) = some (.int .i64 (r : Nat)) := keyOf_int_mk Try.underlying3 (by simp [Lit.wf, IntKind.min, IntKind.max, IntKind.signed, IntKind.bits]; omega)
      have Hkey := Lib.hid hkey
      obtain ⟨hh, hat0⟩ := hpl.out.2 r
      clear hkey
      have hle := firsts_len (f := root E) k
      have hcl := cls_len (f := root E) k
      by_cases hin : r ∈ firsts (root E) k
      · rw [decide_eq_true hin] at hh
        have Hh := Lib.hid hh
        have Hat := Lib.hid (hat0 hin)
        have hil : (firsts (root E) k).idxOf r < (firsts (root E) k).length := List.idxOf_lt_length_iff.2 hin
        have HC1 := Lib.hid (show cls (root E) (k + 1) = (cls (root E) k).set ((firsts (root E) k).idxOf r) (clsOf (root E) k r ++ [k]) by rw [hr]; exact cls_known (by rw [← hr]; exact hin))
        have HC2 := Lib.hid (show (cls (root E) k)[(firsts (root E) k).idxOf r]? = some (clsOf (root E) k r) by rw [hr]; exact cls_known_get (by rw [← hr]; exact hin))
        have HF := Lib.hid (show firsts (root E) (k + 1) = firsts (root E) k by
          show (if root E k ∈ firsts (root E) k then _ else _) = _
          rw [if_pos (by rw [← hr]; exact hin)])
        have hll := clsOf_len (f := root E) k r
        generalize (firsts (root E) k).idxOf r = i at *
        rw [← hcl] at hil
        obtain ⟨x, hx⟩ : ∃ x, vs[i]? = some x := ⟨_, List.getElem?_eq_getElem (by rw [hl.len]; exact hil)⟩
        have hxo := hl.ins i x _ hx HC2.out
        obtain ⟨b, cap, rfl, hb1, hb2⟩ := hl.out.form (by omega)
        have hcell : wr.cell? ⟨b, i, none⟩ = some x := (hl.out.cellAt i (by omega)).trans hx
        have Hx := Lib.hid hx
        have Hl := Lib.hid hl
        have Hxo := Lib.hid hxo
        have Hb := Lib.hid hb
        obtain ⟨m, hm⟩ : ∃ m, m = (clsOf (root E) k r).length := ⟨_, rfl⟩
        rw [← hm] at Hxo hll
        have Hm := Lib.hid hm
        obtain ⟨LL, hLL⟩ : ∃ LL, LL = (cls (root E) k).length := ⟨_, rfl⟩
        rw [← hLL] at hil hcl
        have hLk : LL ≤ k := by omega
        have HLL := Lib.hid hLL
        have h63 : m + 1 ≤ maxLen := by simp only [maxLen]; omega
        have hby : (m + 1) * 8 ≤ 140737488355328 := by omega
        have hg0 : (0 : Int) ≤ (i : Int) ∧ (i : Int) < (LL : Int) := by omega
        rw [show (Value.slice (some ⟨b, 0, none⟩) (cls (root E) k).length cap) = .slice (some ⟨b, 0, none⟩) LL cap by rw [HLL.out]]
        have HPUT : Hid (∀ (g1 cap1 : Nat) (w1 : World), w1.ownsRow w.heap.size 3 1 (.slice (some ⟨g1, 0, none⟩) (m + 1) cap1) (m + 1) (nats (clsOf (root E) k r) ++ [.int .i64 (k : Nat)]) → (wr.alloc (.cells #[.int .i64 (k : Nat)] 3)).grownBy w1 x.ownBlock → (x.ownBlock = some g1 ∨ g1 = wr.heap.size + 1) →
            w1.cell? ⟨b, i, none⟩ = some x ∧ w1.frozen? ⟨b, i, none⟩ = false ∧ Hid (∃ vs', Lists w.heap.size (w1.setCell ⟨b, i, none⟩ (.slice (some ⟨g1, 0, none⟩) (m + 1) cap1)) (.slice (some ⟨b, 0, none⟩) LL cap) vs' (cls (root E) (k + 1))) ∧
            Hid ((w1.setCell ⟨b, i, none⟩ (.slice (some ⟨g1, 0, none⟩) (m + 1) cap1)).ownsMap Try.prog 3 (plainElem Try.prog 3) w.heap.size k D) ∧ Hid (Below w.heap.size wr (w1.setCell ⟨b, i, none⟩ (.slice (some ⟨g1, 0, none⟩) (m + 1) cap1)))) := fun g1 cap1 w1 h1 h2 h3 => by
          have := Lists.roundA (a := k) hl hmp.out hz hx HC2.out h2 (by rw [hm]) h1 h3
          rw [HC1.out, HLL.out]
          exact this
        clear hat0 hin hh hl hx hxo hm hcl hle hLL hr hls hb
        go_wp2_with fail
        refine (HR.out).mono ?_
        rintro e w' ⟨rfl, hw⟩; obtain rfl := hw.symm; clear hw
        go_wp2_with (first
          | (at_lookup; refine wpList_lookup_own_ok_int _ rfl _ _ 54 rfl 3 3 .i64 keyInt12 Try.underlying54 Try.underlying3 (zeroInt12 _) w.heap.size k D rfl hmp.out _ _ rfl Hkey.out ?_; intro c1 hat1 hwc; rw [Hh.out]; obtain rfl : c1 = (i : Int) := (by have := hat1.symm.trans (Hat.out _); injection this with this; injection this); clear hat1 hwc)
          | (at_builtin; refine wpList_append_lies _ rfl _ _ 50 rfl w.heap.size 3 i1 _ 1 8 Try.underlying50 hi1 jz0 jz1 jz2 rfl (by omega) x m (nats (clsOf (root E) k r)) rfl (Hxo.out.alloc _) ⟨wr.heap.size, 0, none⟩ 1 1 [.int .i64 (k : Nat)] rfl rfl (cell_one_new _ _ _) (by simp [Value.oneCell']) (by omega) h63 hby (by simp; omega) (wr.heap.size + 1) (by simp) ?_; intro g1 cap1 w1 hown1 hgrow1 hat1 hlt1; obtain ⟨kc, kf, HL1, HM1, HB1⟩ := HPUT.out g1 cap1 w1 hown1 hgrow1 hat1; clear hown1 hgrow1 hat1))
        go_light
        exact ⟨⟨k + 1, D, _, by omega, rfl, by go_num, HL1.out, HM1.out.mono (by omega), by rw [HF.out]; exact hpl.out, Hb.out.trans HB1.out⟩, by simp [intOf]; omega⟩
      · rw [decide_eq_false hin] at hh
        have Hh := Lib.hid hh
        have HC1 := Lib.hid (show cls (root E) (k + 1) = cls (root E) k ++ [[k]] by exact cls_new (by rw [← hr]; exact hin))
        have HF := Lib.hid (show firsts (root E) (k + 1) = firsts (root E) k ++ [r] by
          show (if root E k ∈ firsts (root E) k then _ else _) = _
          rw [if_neg (by rw [← hr]; exact hin), hr])
        have Hpl2 := Lib.hid (hpl.out.put hin)
        obtain ⟨LL, hLL⟩ : ∃ LL, LL = (cls (root E) k).length := ⟨_, rfl⟩
        rw [← hcl, ← hLL] at Hpl2
        obtain ⟨A, cp, rfl⟩ : ∃ A cp, lv = .slice A LL cp := by
          rcases hl.out.2 with ⟨h1, h2⟩ | ⟨g', cap', cur', h1, _⟩
          · exact ⟨none, 0, by rw [h1, hLL, h2]⟩
          · exact ⟨_, _, by rw [hLL]; exact h1⟩
        have Hl := Lib.hid hl
        have Hb := Lib.hid hb
        have hLk : LL ≤ k := by omega
        have HLL := Lib.hid hLL
        have Hwf : Hid ((Lit.int .i64 (LL : Nat)).wf = true) := by show _ = _; simp [Lit.wf, IntKind.min, IntKind.max, IntKind.signed, IntKind.bits]; omega
        have h63 : LL + 1 ≤ maxLen := by simp only [maxLen]; omega
        have hby : (LL + 1) * 24 ≤ 140737488355328 := by omega
        have Hout : Hid (wr.ownsRow w.heap.size 50 1 (.slice A LL cp) LL vs) := by show World.ownsRow _ _ _ _ _ _ _; have := hl.out; rwa [← hLL] at this
        have hg0 : (0 : Int) ≤ (LL : Int) ∧ (LL : Int) < ((LL + 1 : Nat) : Int) := by omega
        clear hat0 hin hh hl hcl hle hLL hr hls hb
        go_wp2_with fail
        refine (HR.out).mono ?_
        rintro e w' ⟨rfl, hw⟩; obtain rfl := hw.symm; clear hw
        go_wp2_with (first
          | (at_lookup; refine wpList_lookup_own_ok_int _ rfl _ _ 54 rfl 3 3 .i64 keyInt12 Try.underlying54 Try.underlying3 (zeroInt12 _) w.heap.size k D rfl hmp.out _ _ rfl Hkey.out ?_; intro c1 hat1 hwc; rw [Hh.out]; clear hat1 hwc)
          | (at_mapUpdate; refine wpList_mapUpdate_own _ rfl _ _ _ 54 rfl 3 3 keyInt12 Try.underlying54 _ w.heap.size k D rfl hmp.out (by unfold maxLen; omega) _ _ _ rfl rfl Hkey.out _ [] (plainElem_int Try.underlying3 Hwf.out) ?_; intro w1 hown1 hgrow1; have HM1 := Lib.hid hown1; have HL1 := Lib.hid (Hl.out.mapped hmp.out hgrow1); have HB1 := Lib.hid (Hb.out.grown hgrow1 hz (fun j hj => by cases hj; exact Nat.le_refl _)); have Hout1 := Lib.hid (Hout.out.kept hgrow1 (.inr (fun e => map_apart hmp.out Hout.out e.symm))); have hz1 : w.heap.size ≤ w1.heap.size := HB1.out.size; clear hown1 hgrow1)
          | (at_builtin; refine wpList_append_lies _ rfl _ _ 82 rfl w.heap.size 50 i0 _ 1 24 Try.underlying82 hi0 iz0 iz1 iz2 rfl (by omega) (.slice A LL cp) LL vs rfl (Hout1.out.alloc _) ⟨w1.heap.size, 0, none⟩ 1 1 [.slice none 0 0] rfl rfl (cell_one_new _ _ _) (by simp [Value.oneCell']) (by omega) h63 hby (by simp; omega) (w1.heap.size + 1) (by simp) ?_; intro g2 cap2 w2 hown2 hgrow2 hat2 hlt2; obtain ⟨HL2, HM2, HB2, hz2, kc2, kx2, kl2⟩ := Lists.moreA HL1.out HM1.out hz1 HLL.out hgrow2 hown2; have Kx2 := Lib.hid kx2; have Kl2 := Lib.hid kl2; clear hown2 hgrow2 hat2 kx2 kl2)
          | (at_builtin; refine wpList_append_lies _ rfl _ _ 50 rfl w.heap.size 3 i1 _ 1 8 Try.underlying50 hi1 jz0 jz1 jz2 rfl (by omega) (.slice none 0 0) 0 [] rfl (World.ownsRow_nil _ _ _ _) ⟨w2.heap.size, 0, none⟩ 1 1 [.int .i64 (k : Nat)] rfl rfl (cell_one_new _ _ _) (by simp [Value.oneCell']) (by omega) (by simp only [maxLen]; omega) (by omega) (by simp; omega) (w2.heap.size + 1) (by simp) ?_; intro g3 cap3 w3 hown3 hgrow3 hat3 hlt3; obtain ⟨kc, kf, HL3, HM3, HB3⟩ := Lists.roundA (a := k) HL2.out HM2.out hz2 Kx2.out Kl2.out hgrow3 rfl hown3 hat3; clear hown3 hgrow3 hat3))
        go_light
        refine ⟨⟨k + 1, _, _, by omega, rfl, by go_num, ?_, HM3.out, by rw [HF.out]; exact Hpl2.out, (HB1.out.trans HB2.out).trans HB3.out⟩, by simp [intOf]; omega⟩
        obtain ⟨vs', h3⟩ := HL3.out
        refine ⟨vs', ?_⟩
        have e1 : (cls (root E) k ++ [[]]).set LL ([] ++ [k]) = cls (root E) k ++ [[k]] := by
          rw [HLL.out, List.set_append_right _ _ (Nat.le_refl _), Nat.sub_self]
          rfl
        rw [HC1.out, ← e1]
        exact h3
    · obtain rfl : k = n := by omega
      go_wp2
      go_ret
      exact ⟨_, rfl, ⟨vs, hl⟩, hb⟩
end Go.Proofs.Ytimgnmlcgnibhaa.Tok
