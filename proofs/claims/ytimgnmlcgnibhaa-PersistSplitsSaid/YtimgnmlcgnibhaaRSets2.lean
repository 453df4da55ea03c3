/- The reference's sets: Classes. -/
import Derived.Test.YtimgnmlcgnibhaaRSets1
namespace Go.Proofs.Ytimgnmlcgnibhaa.Tok
open Go.RowKit Go.Proofs.Ytimgnmlcgnibhaa

theorem Lists.made {base : Nat} {w : World} (hz : base ≤ w.heap.size) : Lists base (w.alloc (.cells #[] 50)) (.slice (some ⟨w.heap.size, 0, Option.none⟩) 0 0) [] [] where
  len := rfl
  out := World.ownsRow_lit (base := base) (e := 50) (size := 1) w #[] 0 hz (by decide) (by simp)
  ins := fun i x l h => by simp at h
  apart := fun i j x y _ h => by simp at h
/-- One list more. -/
theorem Lists.push {base B1 : Nat} {w w1 : World} {v : Value} {vs : List Value} {L : List (List Nat)} (h : Lists base w v vs L) {x : Value} {l : List Nat} (hx : w.ownsRow B1 3 1 x l.length (nats l)) (hb : base ≤ B1)
    (hlt : ∀ y ∈ vs, ∀ q, y.ownBlock = some q → q < B1) {v1 : Value} (hg : w.grownBy w1 v.ownBlock) (ho : w1.ownsRow base 50 1 v1 (L.length + 1) (vs ++ [x])) : Lists base w1 v1 (vs ++ [x]) (L ++ [l]) where
  len := by simp [h.len]
  out := by simpa using ho
  ins := fun i y k h1 h2 => by
    rcases Nat.lt_or_ge i vs.length with hi | hi
    · rw [List.getElem?_append_left hi] at h1
      rw [List.getElem?_append_left (by rw [← h.len]; exact hi)] at h2
      have := h.ins i y k h1 h2
      exact this.kept hg (own_types this h.out (by decide))
    · rw [List.getElem?_append_right hi] at h1
      rw [List.getElem?_append_right (by rw [← h.len]; exact hi), ← h.len] at h2
      have hz : i - vs.length = 0 := by
        have := (List.getElem?_eq_some_iff.1 h1).1
        simp at this
        omega
      rw [hz] at h1 h2
      simp at h1 h2
      subst h1 h2
      have h3 := hx.kept hg (own_types hx h.out (by decide))
      exact ⟨h3.1, h3.2.imp id fun ⟨g, cap, cur, a, b, c⟩ => ⟨g, cap, cur, a, by omega, c⟩⟩
  apart := fun i j y z hij h1 h2 => by
    rcases Nat.lt_or_ge i vs.length with hi | hi
    · rw [List.getElem?_append_left hi] at h1
      rcases Nat.lt_or_ge j vs.length with hj | hj
      · rw [List.getElem?_append_left hj] at h2
        exact h.apart i j y z hij h1 h2
      · rw [List.getElem?_append_right hj] at h2
        have hz : j - vs.length = 0 := by
          have := (List.getElem?_eq_some_iff.1 h2).1
          simp at this
          omega
        rw [hz] at h2
        simp at h2
        subst h2
        cases hy : y.ownBlock with
        | none => exact .inl rfl
        | some q =>
          right
          intro e
          have h3 := hlt y (List.mem_of_getElem? h1) q hy
          have := (hx.lt q e.symm).1
          omega
    · rw [List.getElem?_append_right hi] at h1
      have hz : i - vs.length = 0 := by
        have := (List.getElem?_eq_some_iff.1 h1).1
        simp at this
        omega
      rw [hz] at h1
      simp at h1
      subst h1
      rcases Nat.lt_or_ge j vs.length with hj | hj
      · rw [List.getElem?_append_left hj] at h2
        cases hy : x.ownBlock with
        | none => exact .inl rfl
        | some q =>
          right
          intro e
          have h3 := hlt z (List.mem_of_getElem? h2) q e.symm
          have := (hx.lt q hy).1
          omega
      · rw [List.getElem?_append_right hj] at h2
        have := (List.getElem?_eq_some_iff.1 h2).1
        simp at this
        omega
theorem Lists.lt {base : Nat} {w : World} {v : Value} {vs : List Value} {L : List (List Nat)} (h : Lists base w v vs L) : ∀ y ∈ vs, ∀ q, y.ownBlock = some q → q < w.heap.size := fun y hy q hq => by
  obtain ⟨i, hi, rfl⟩ := List.mem_iff_getElem.1 hy
  exact ((h.ins i _ _ (List.getElem?_eq_getElem hi) (List.getElem?_eq_getElem (by rw [← h.len]; exact hi))).lt q hq).2
theorem rcls_succ (f : Nat → Nat) (n k : Nat) : rcls f n (k + 1) = if f k = k then rcls f n k ++ [(List.range' k (n - k)).filter fun b => f b == k] else rcls f n k := by
  unfold rcls
  rw [List.range_succ, List.filter_append, List.map_append]
  by_cases h : f k = k <;> simp [h]
theorem part_succ (f : Nat → Nat) {i j : Nat} (h : i ≤ j) : (List.range' i (j + 1 - i)).filter (fun b => f b == i) = (List.range' i (j - i)).filter (fun b => f b == i) ++ if f j = i then [j] else [] := by
  rw [show j + 1 - i = (j - i) + 1 by omega, List.range'_1_concat, List.filter_append, show i + (j - i) = j by omega]
  by_cases h : f j = i <;> simp [h]
theorem rcls_len (f : Nat → Nat) (n k : Nat) : (rcls f n k).length ≤ k := by
  unfold rcls
  rw [List.length_map]
  have := List.length_filter_le (fun i => f i == i) (List.range k)
  simpa using this
theorem part_len (f : Nat → Nat) (i m : Nat) : ((List.range' i m).filter fun b => f b == i).length ≤ m := by
  have := List.length_filter_le (fun b => f b == i) (List.range' i m)
  simpa using this
set_option maxHeartbeats 3200000 in
set_option maxRecDepth 8000 in
theorem rclasses_any (A1 A2 : Option Addr) (n c1 p c2 : Nat) (f : Nat → Nat) (cur : List Nat) (w : World) (h : RdT w 3 A1 n (nats cur)) (hn : n ≤ 60) (hf : ∀ i, i < n → cur[i]? = some (f i)) (hfl : ∀ i, i < n → f i < n) :
    Calls Try.prog 50 #[.agg #[.slice A1 n c1, .slice A2 p c2]] w fun e w' => ∃ v, e = .returned v ∧ (∃ vs, Lists w.heap.size w' v vs (rcls f n n)) ∧ Below w.heap.size w w' := by
  obtain ⟨i0, hi0, iz0, iz1, iz2⟩ := info_parts infoSl12
  obtain ⟨i1, hi1, jz0, jz1, jz2⟩ := info_parts infoIn12
  have HRd := Lib.hid h.rd
  have Hf := Lib.hid hf
  have Hfl := Lib.hid hfl
  clear h hf hfl
  go_enter Try.func50, Try.ntmps50
  go_wp2
  generalize hwq : World.alloc (World.alloc _ _) _ = wq
  have HR0 : Hid (wq.heap[w.heap.size]? = some (.cells #[.slice A1 n c1, .slice A2 p c2] 84 (0, 0))) := by
    subst hwq
    show _ = _
    rw [heap_alloc_old _ _ (by simp)]
    exact heap_alloc_new _ _
  have HL0 : Hid (∃ vs, Lists w.heap.size wq (.slice (some ⟨w.heap.size + 1, 0, none⟩) 0 0) vs (rcls f n 0)) := by
    subst hwq
    have := Lists.made (base := w.heap.size) (w := w.alloc (.cells #[.slice A1 n c1, .slice A2 p c2] 84)) (by simp)
    refine ⟨[], ?_⟩
    rwa [show (w.alloc (.cells #[.slice A1 n c1, .slice A2 p c2] 84)).heap.size = w.heap.size + 1 by simp] at this
  have HB0 : Hid (Below w.heap.size w wq) := by subst hwq; exact ((Below.refl _ _).alloc (Nat.le_refl _) _).alloc (by simp) _
  have hsz0 : w.heap.size < wq.heap.size := by subst hwq; simp; omega
  clear hwq
  go_loopw [3, 4] (fun lv iv wr => ∃ (k : Nat) (u : Value), k ≤ n ∧ lv = u ∧ iv = .int .i64 k ∧ Hid (∃ vs, Lists w.heap.size wr u vs (rcls f n k)) ∧ Hid (wr.heap[w.heap.size]? = some (.cells #[.slice A1 n c1, .slice A2 p c2] 84 (0, 0))) ∧ Below w.heap.size w wr) (fun _ i _ => n - (intOf i).toNat)
  case atStart => exact ⟨0, _, Nat.zero_le _, rfl, rfl, HL0.out, HR0.out, HB0.out⟩
  case round =>
    clear HR0 HL0 HB0 hsz0
    obtain ⟨k, lv, hk, hlv, rfl, hls, hr0, hb⟩ := hrel
    obtain rfl := hlv.symm
    clear hlv
    have hz := hb.size
    have hs0 := (Array.getElem?_eq_some_iff.1 hr0.out).1
    have c0 := (cell_of_row _ _ 0 _ _ _ hr0.out).trans (rfl : _ = some (Value.slice A1 n c1))
    by_cases hlt : k < n
    · obtain ⟨b, off, rfl, hbb, hc⟩ := HRd.out.pos (by omega)
      have HC : Hid (∀ j, j < n → w.cell? ⟨b, off + j, none⟩ = some (.int .i64 (f j : Nat))) := fun j hj => hc j _ (by unfold nats; rw [List.getElem?_map, Hf.out j hj]; rfl)
      clear hc
      have hck := (hb.cell (p := ⟨b, off + k, none⟩) (by show b < _; omega)).trans (HC.out k hlt)
      have hfk := Hfl.out k hlt
      have hbl : b < wr.heap.size := by omega
      by_cases e : f k = k
      · have g1 : ((f k : Int) != (k : Int)) = false := by rw [bne_eq_false_iff_eq]; omega
        have HE := Lib.hid e
        have HCL := Lib.hid (rcls_succ f n k)
        rw [if_pos e] at HCL
        have Hls := Lib.hid hls
        have Hb := Lib.hid hb
        clear e hls hb
        obtain ⟨F, hF⟩ : ∃ F, F = f k := ⟨_, rfl⟩
        rw [← hF] at hck g1 hfk
        clear hF
        go_wp2
        clear hck g1
        obtain ⟨w0, hw0⟩ : ∃ w0, w0 = wr := ⟨_, rfl⟩
        obtain ⟨wx, hwx⟩ : ∃ wx, wx = wr.alloc (.cells #[] 3) := ⟨_, rfl⟩
        have HO0 : Hid (wx.ownsRow w0.heap.size 3 1 (.slice (some ⟨w0.heap.size, 0, none⟩) 0 0) 0 (nats ((List.range' k (k - k)).filter fun b => f b == k))) := by
          subst hwx hw0
          rw [Nat.sub_self]
          exact World.ownsRow_lit (base := w0.heap.size) (e := 3) (size := 1) w0 #[] 0 (Nat.le_refl _) (by decide) (by simp)
        have HB1 : Hid (Below w0.heap.size w0 wx) := by subst hwx hw0; exact (Below.refl _ _).alloc (Nat.le_refl _) _
        rw [← hw0] at Hls hr0 Hb hz hs0 c0 hbl hwx ⊢
        rw [← hwx]
        have Hr0 := Lib.hid hr0.out
        clear hw0 hwx hr0 c0
        go_loopw [5, 6] (fun xv jv wr => ∃ (j : Nat) (x : Value), k ≤ j ∧ j ≤ n ∧ xv = x ∧ jv = .int .i64 j ∧ Hid (wr.ownsRow w0.heap.size 3 1 x ((List.range' k (j - k)).filter fun b => f b == k).length (nats ((List.range' k (j - k)).filter fun b => f b == k))) ∧ Below w0.heap.size w0 wr) (fun _ i _ => n - (intOf i).toNat)
        case atStart => exact ⟨k, _, Nat.le_refl _, by omega, rfl, rfl, by show World.ownsRow _ _ _ _ _ _ _; have h1 := HO0.out; rw [Nat.sub_self] at h1 ⊢; exact h1, HB1.out⟩
        case round =>
          clear HO0 HB1
          obtain ⟨j, x, hkj, hjn, hxv, rfl, hown, hb1⟩ := hrel
          obtain rfl := hxv.symm
          clear hxv
          have hz1 := hb1.size
          have c0 := (hb1.cell (p := ⟨w.heap.size, 0, none⟩) (by show w.heap.size < _; omega)).trans ((cell_of_row _ _ 0 _ _ _ Hr0.out).trans (rfl : _ = some (Value.slice (some ⟨b, off, none⟩) n c1)))
          by_cases hlj : j < n
          · have hcj := (hb1.cell (p := ⟨b, off + j, none⟩) (by show b < _; omega)).trans ((Hb.out.cell (p := ⟨b, off + j, none⟩) (by show b < _; omega)).trans (HC.out j hlj))
            have hfj := Hfl.out j hlj
            have hbl2 : b < wr.heap.size := by omega
            have hps := part_succ f hkj
            have hpl := part_len f k (j - k)
            generalize hP : (List.range' k (j - k)).filter (fun b => f b == k) = P at hown hps hpl
            by_cases e2 : f j = k
            · have g2 : ((f j : Int) == (k : Int)) = true := by rw [beq_iff_eq]; omega
              have g2' : (f j == k) = true := by rw [beq_iff_eq]; omega
              rw [if_pos e2] at hps
              have HPS := Lib.hid hps
              have h63 : P.length + 1 ≤ maxLen := by simp only [maxLen]; omega
              have hby : (P.length + 1) * 8 ≤ 140737488355328 := by omega
              have HN : Hid (∀ (g1 cap1 : Nat) (w1 : World), w1.ownsRow w0.heap.size 3 1 (.slice (some ⟨g1, 0, none⟩) (P.length + 1) cap1) (P.length + 1) (nats P ++ [.int .i64 (j : Nat)]) → (wr.alloc (.cells #[.int .i64 (j : Nat)] 3)).grownBy w1 x.ownBlock →
                  Hid (w1.ownsRow w0.heap.size 3 1 (.slice (some ⟨g1, 0, none⟩) (P.length + 1) cap1) ((List.range' k (j + 1 - k)).filter fun b => f b == k).length (nats ((List.range' k (j + 1 - k)).filter fun b => f b == k))) ∧ Hid (Below w0.heap.size w0 w1)) := fun g1 cap1 w1 h1 h2 => by
                have hg := (World.grownBy_alloc wr (.cells #[.int .i64 (j : Nat)] 3) x.ownBlock).trans h2
                refine ⟨?_, hb1.grown hg hz1 (fun q hq => (hown.out.lt q hq).1)⟩
                show World.ownsRow _ _ _ _ _ _ _
                rw [HPS.out, List.length_append, ← nats_snoc]
                exact h1
              clear hps hP e2
              obtain ⟨F2, hF2⟩ : ∃ F2, F2 = f j := ⟨_, rfl⟩
              rw [← hF2] at hcj g2 g2' hfj
              clear hF2
              go_wp2_with (at_builtin; refine wpList_append_lies _ rfl _ _ 50 rfl w0.heap.size 3 i1 _ 1 8 Try.underlying50 hi1 jz0 jz1 jz2 rfl (by omega) x P.length (nats P) rfl (hown.out.alloc _) ⟨wr.heap.size, 0, none⟩ 1 1 [.int .i64 (j : Nat)] rfl rfl (cell_one_new _ _ _) (by simp [Value.oneCell']) (by omega) h63 hby (by simp; omega) (wr.heap.size + 1) (by simp) ?_; intro g1 cap1 w1 hown1 hgrow1 hat1 hlt1; obtain ⟨K1, K2⟩ := HN.out _ _ _ hown1 hgrow1; clear hown1 hgrow1 hat1)
              go_light
              exact ⟨⟨j + 1, _, by omega, by omega, rfl, by go_num, K1.out, K2.out⟩, by simp [intOf]; omega⟩
            · have g2 : ((f j : Int) == (k : Int)) = false := by rw [beq_eq_false_iff_ne]; omega
              have g2' : (f j == k) = false := by rw [beq_eq_false_iff_ne]; omega
              rw [if_neg e2, List.append_nil] at hps
              have HPS := Lib.hid hps
              clear hps hP e2
              obtain ⟨F2, hF2⟩ : ∃ F2, F2 = f j := ⟨_, rfl⟩
              rw [← hF2] at hcj g2 g2' hfj
              clear hF2
              go_wp2
              go_light
              exact ⟨⟨j + 1, _, by omega, by omega, rfl, by go_num, by rw [HPS.out]; exact hown.out, hb1⟩, by simp [intOf]; omega⟩
          · obtain rfl : j = n := by omega
            obtain ⟨vs, hl0⟩ := Hls.out
            have hlw := hl0.below hb1
            have hlts := hl0.lt
            have hlen := rcls_len f j k
            generalize hP : (List.range' k (j - k)).filter (fun b => f b == k) = P at hown HCL
            obtain ⟨X, cx, rfl⟩ : ∃ X cx, x = .slice X P.length cx := by
              rcases hown.out.2 with ⟨h1, h2⟩ | ⟨g', cap', cur', h1, _⟩
              · exact ⟨none, 0, by rw [h1, h2]⟩
              · exact ⟨_, _, h1⟩
            have Hlw := Lib.hid hlw
            have Hlts := Lib.hid hlts
            obtain ⟨LL, hLL⟩ : ∃ LL, LL = (rcls f j k).length := ⟨_, rfl⟩
            rw [← hLL] at hlen
            obtain ⟨A, cp, rfl⟩ : ∃ A cp, lv = .slice A LL cp := by
              rcases hlw.out.2 with ⟨h1, h2⟩ | ⟨g', cap', cur', h1, _⟩
              · exact ⟨none, 0, by rw [h1, hLL, h2]⟩
              · exact ⟨_, _, by rw [hLL]; exact h1⟩
            have HLL := Lib.hid hLL
            have Hout : Hid (wr.ownsRow w.heap.size 50 1 (.slice A LL cp) LL vs) := by show World.ownsRow _ _ _ _ _ _ _; have := hlw.out; rwa [← hLL] at this
            have h63 : LL + 1 ≤ maxLen := by simp only [maxLen]; omega
            have hby : (LL + 1) * 24 ≤ 140737488355328 := by omega
            have HN : Hid (∀ (g1 cap1 : Nat) (w1 : World), w1.ownsRow w.heap.size 50 1 (.slice (some ⟨g1, 0, none⟩) (LL + 1) cap1) (LL + 1) (vs ++ [.slice X P.length cx]) → (wr.alloc (.cells #[.slice X P.length cx] 50)).grownBy w1 (Value.slice A LL cp).ownBlock →
                Hid (∃ vs, Lists w.heap.size w1 (.slice (some ⟨g1, 0, none⟩) (LL + 1) cap1) vs (rcls f j (k + 1))) ∧ Hid (w1.heap[w.heap.size]? = some (.cells #[.slice (some ⟨b, off, none⟩) j c1, .slice A2 p c2] 84 (0, 0))) ∧ Hid (Below w.heap.size w w1)) := fun g1 cap1 w1 h1 h2 => by
              have hg := (World.grownBy_alloc wr (.cells #[.slice X P.length cx] 50) (Value.slice A LL cp).ownBlock).trans h2
              rw [HLL.out] at h1
              have hrow : wr.heap[w.heap.size]? = some (.cells #[.slice (some ⟨b, off, none⟩) j c1, .slice A2 p c2] 84 (0, 0)) := (hb1.block w.heap.size (by omega)).trans Hr0.out
              refine ⟨⟨vs ++ [.slice X P.length cx], ?_⟩, (hg.block w.heap.size (by omega) (own_apartS Hout.out hrow (by decide))).trans hrow, (Hb.out.trans (hb1.mono hz)).grown hg (by omega) (fun q hq => (Hout.out.lt q hq).1)⟩
              rw [HCL.out]
              have := Hlw.out.push hown.out hz Hlts.out hg h1
              rwa [← HLL.out] at this
            have HX : Hid (∀ u ∈ [Value.slice X P.length cx], u.oneCell' = true) := by
              show ∀ u ∈ _, _
              intro u hu
              simp at hu
              subst hu
              rfl
            obtain ⟨mP, hmP⟩ : ∃ mP, mP = P.length := ⟨_, rfl⟩
            rw [← hmP] at HN HX ⊢
            clear hmP
            have hbs : w.heap.size ≤ wr.heap.size := by omega
            clear hl0 hlw hlts hlen hP hLL
            go_wp2_with (at_builtin; refine wpList_append_lies _ rfl _ _ 82 rfl w.heap.size 50 i0 _ 1 24 Try.underlying82 hi0 iz0 iz1 iz2 rfl (by omega) (.slice A LL cp) LL vs rfl (Hout.out.alloc _) ⟨wr.heap.size, 0, none⟩ 1 1 [.slice X mP cx] rfl rfl (cell_one_new _ _ _) HX.out (by omega) h63 hby (by simp; omega) (wr.heap.size + 1) (by simp) ?_; intro g1 cap1 w1 hown1 hgrow1 hat1 hlt1; obtain ⟨K1, K2, K3⟩ := HN.out _ _ _ hown1 hgrow1; clear hown1 hgrow1 hat1)
            go_light
            exact ⟨⟨k + 1, _, by omega, rfl, by go_num, K1.out, K2.out, K3.out⟩, by simp [intOf]; omega⟩
      · have g1 : ((f k : Int) != (k : Int)) = true := by rw [bne_iff_ne]; omega
        have HCL := Lib.hid (rcls_succ f n k)
        rw [if_neg e] at HCL
        clear e
        obtain ⟨F, hF⟩ : ∃ F, F = f k := ⟨_, rfl⟩
        rw [← hF] at hck g1 hfk
        clear hF
        go_wp2
        go_light
        exact ⟨⟨k + 1, _, by omega, rfl, by go_num, by rw [HCL.out]; exact hls.out, hr0.out, hb⟩, by simp [intOf]; omega⟩
    · obtain rfl : k = n := by omega
      go_wp2
      go_ret
      exact ⟨_, rfl, hls.out, hb⟩
end Go.Proofs.Ytimgnmlcgnibhaa.Tok
