/- The law TokenLocal: every way through it returns true. -/
import Derived.Test.YtflfeimmdpjbeaaLocalMath
import Derived.Test.YtflfeimmdpjbeaaAwake
import Derived.Test.YtflfeimmdpjbeaaAppend
namespace Go.Proofs.Ytflfeimmdpjbeaa.Tok
open Go.RowKit Go.Proofs.Ytflfeimmdpjbeaa

theorem own_below {w w' : World} {base e size n : Nat} {v : Value} {xs : List Value} (h : w.ownsRow base e size v n xs) (hb : Below w.heap.size w w') : w'.ownsRow base e size v n xs := by
  refine ⟨h.1, ?_⟩
  rcases h.2 with ⟨h1, h2⟩ | ⟨g, cap, cur, hv, h1, hh, h2⟩
  · exact .inl ⟨h1, h2⟩
  · refine .inr ⟨g, cap, cur, hv, h1, ?_, h2⟩
    have hlt : g < w.heap.size := by
      rcases Nat.lt_or_ge g w.heap.size with h3 | h3
      · exact h3
      · rw [Array.getElem?_eq_none h3] at hh; cases hh
    rw [hb.block g hlt]
    exact hh
theorem own_at {w : World} {base e size n c : Nat} {A : Option Addr} {xs : List Value} (h : w.ownsRow base e size (.slice A n c) n xs) (hn : 0 < n) : ∃ g, A = some ⟨g, 0, none⟩ ∧ base ≤ g ∧ g < w.heap.size := by
  rcases h.2 with ⟨h1, h2⟩ | ⟨g, cap, cur, hv, h1, hh, h2⟩
  · omega
  · have hA : A = some ⟨g, 0, none⟩ := by injection hv
    refine ⟨g, hA, h1, ?_⟩
    rcases Nat.lt_or_ge g w.heap.size with h3 | h3
    · exact h3
    · rw [Array.getElem?_eq_none h3] at hh; cases hh

def mix (b : ByteArray) (m : Nat) (T : List (Nat × Nat)) (k : Nat) : List Value := cellsUp b m (T.take k) ++ cellsOf b (T.drop k)
theorem mix_zero (b : ByteArray) (m : Nat) (T : List (Nat × Nat)) : mix b m T 0 = cellsOf b T := rfl
theorem mix_all (b : ByteArray) (m : Nat) (T : List (Nat × Nat)) : mix b m T T.length = cellsUp b m T := by
  unfold mix
  rw [List.take_length, List.drop_length]
  simp [cellsOf]
theorem up_len (b : ByteArray) (m : Nat) (T : List (Nat × Nat)) : (cellsUp b m T).length = T.length * 2 := flat2_len _ (fun _ => rfl) T
theorem mix_at (b : ByteArray) (m : Nat) (T : List (Nat × Nat)) (k : Nat) (hk : k < T.length) : (mix b m T k)[k * 2 + 1]? = some (.int .i64 (T[k].1 : Nat)) := by
  unfold mix
  have hl : (cellsUp b m (T.take k)).length = k * 2 := by rw [up_len, List.length_take]; congr 1; omega
  rw [List.getElem?_append_right (by omega), hl, show k * 2 + 1 - k * 2 = 1 from by omega, List.drop_eq_getElem_cons hk]
  rfl
theorem mix_set (b : ByteArray) (m : Nat) (T : List (Nat × Nat)) (k : Nat) (hk : k < T.length) : (mix b m T k).set (k * 2 + 1) (.int .i64 ((T[k].1 + m : Nat) : Int)) = mix b m T (k + 1) := by
  unfold mix
  have hl : (cellsUp b m (T.take k)).length = k * 2 := by rw [up_len, List.length_take]; congr 1; omega
  rw [List.set_append_right _ _ (by omega), hl, show k * 2 + 1 - k * 2 = 1 from by omega, List.drop_eq_getElem_cons hk, List.take_succ_eq_append_getElem hk]
  unfold cellsUp cellsOf
  rw [List.flatMap_append, List.append_assoc]
  congr 1

/-- What the loop over the second text's tokens keeps. -/
def LocRel (w : World) (B1 B2 B3 : Nat) (v1 v2 v3 : Value) (n1 n3 : Nat) (x1 x3 : List Value) (b : ByteArray) (m : Nat) (T : List (Nat × Nat)) (k : Nat) (wr : World) : Prop :=
  wr.ownsRow B1 29 2 v1 n1 x1 ∧ wr.ownsRow B2 29 2 v2 T.length (mix b m T k) ∧ wr.ownsRow B3 29 2 v3 n3 x3 ∧ Below w.heap.size w wr ∧ w.heap.size ≤ B1 ∧ (∀ g, v1.ownBlock = some g → g < B2) ∧ (∀ g, v2.ownBlock = some g → g < B3) ∧ B1 ≤ B2 ∧ B2 ≤ B3 ∧ B3 ≤ wr.heap.size

theorem up_one (b : ByteArray) (m : Nat) (T : List (Nat × Nat)) : ∀ u ∈ cellsUp b m T, u.oneCell' = true := by
  intro u hu
  obtain ⟨p, _, hp⟩ := List.mem_flatMap.1 hu
  exact one_pair _ _ u hp
/-- Scan, from a world that has come of w. -/
theorem scan_from {w W : World} (s : ByteArray) (hb : Below w.heap.size w W) : Calls Try.prog 16 #[.string s] W fun e w' => ∃ (A : Option Addr) (c : Nat) (ts : List (Nat × Nat)) (a er B1 : Nat),
    e = .returned (.tuple #[.slice A ts.length c, .int .i64 (a : Nat), .int .i64 (er : Nat)]) ∧ ScanIs s ts a er ∧ ts.length ≤ 8000 ∧ w'.ownsRow B1 29 2 (.slice A ts.length c) ts.length (cellsOf s ts) ∧
    Below w.heap.size w w' ∧ w.heap.size ≤ B1 ∧ B1 ≤ w'.heap.size := by
  refine (scan_good s W).mono ?_
  rintro e w' ⟨A, c, ts, a, er, he, hi, hl, own, hb'⟩
  exact ⟨A, c, ts, a, er, W.heap.size, he, hi, hl, own, hb.trans (hb'.mono hb.size), hb.size, hb'.size⟩
theorem loc_step {w : World} {B1 B2 B3 gb n1 n3 c2 m k : Nat} {v1 v3 : Value} {x1 x3 : List Value} {b : ByteArray} {T : List (Nat × Nat)} {wr : World} {u : Value}
    (h : LocRel w B1 B2 B3 v1 (.slice (some ⟨gb, 0, none⟩) T.length c2) v3 n1 n3 x1 x3 b m T k wr) (hs : (mix b m T k).set (k * 2 + 1) u = mix b m T (k + 1)) :
    LocRel w B1 B2 B3 v1 (.slice (some ⟨gb, 0, none⟩) T.length c2) v3 n1 n3 x1 x3 b m T (k + 1) (wr.setCell ⟨gb, k * 2 + 1, none⟩ u) := by
  obtain ⟨h1, h2, h3, h4, h5, h6, h7, h8, h9, h10⟩ := h
  obtain ⟨s1, s2⟩ := h2.stored (k * 2 + 1) u
  rw [hs] at s1
  have hgb := h2.lt gb rfl
  have e1 : v1.ownBlock ≠ some gb := fun e => by have := h6 gb e; omega
  have e3 : v3.ownBlock ≠ some gb := fun e => by have := (h3.lt gb e).1; have := h7 gb rfl; omega
  exact ⟨h1.kept s2 (.inr e1), s1, h3.kept s2 (.inr e3), h4.setCell (p := ⟨gb, k * 2 + 1, none⟩) (by show _ ≤ gb; omega) u, h5, h6, h7, h8, h9, by simpa [World.setCell] using h10⟩

set_option maxHeartbeats 8000000 in
set_option maxRecDepth 8000 in
theorem law_local (a b : ByteArray) (g : Int) (hg : 0 ≤ g ∧ g ≤ 255) (ha : a.size ≤ maxLen) (hb : b.size ≤ maxLen) (w : World) :
    Calls Try.prog 8 #[.string a, .string b, .int .u8 g] w fun e w' => e = .returned (.bool true) ∧ Below w.heap.size w w' := by
  obtain ⟨i0, hi0, hz0, hz1, hz2⟩ := info_parts infoTok
  unfold maxLen at ha hb
  by_cases h1 : 1500 < (a.size : Int)
  · go_enter Try.func8, Try.ntmps8
    go_wp2_with (go_at_call 15; refine (awake_any _).mono ?_; rintro e w' ⟨rfl, hb⟩)
    go_ret
    exact ⟨rfl, hb⟩
  · by_cases h2 : 1500 < (b.size : Int)
    · go_enter Try.func8, Try.ntmps8
      go_wp2_with (go_at_call 15; refine (awake_any _).mono ?_; rintro e w' ⟨rfl, hb⟩)
      go_ret
      exact ⟨rfl, hb⟩
    · have ha' : a.size ≤ 1500 := by omega
      have hb' : b.size ≤ 1500 := by omega
      have hd1 : decide (1500 < (a.size : Int)) = false := by rw [decide_eq_false_iff_not]; omega
      have hd2 : decide (1500 < (b.size : Int)) = false := by rw [decide_eq_false_iff_not]; omega
      clear h1 h2 ha hb
      have h5 : g % 5 = 0 ∨ g % 5 = 1 ∨ g % 5 = 2 ∨ g % 5 = 3 ∨ g % 5 = 4 := by omega
      rcases h5 with h5 | h5 | h5 | h5 | h5
      · go_enter Try.func8, Try.ntmps8
        go_wp2_with fail
        refine (scan_from (w := w) a ((Below.refl _ w).alloc (Nat.le_refl _) _)).mono ?_
        rintro e w1 ⟨A1, c1, ts1, a1, er1, B1, rfl, hi1, hl1, own1, b1, hB1, hB2⟩
        have Own1 := Lib.hid own1
        have Hi1 := Lib.hid hi1
        clear own1 hi1
        go_wp2_with fail
        refine (scan_good b _).mono ?_
        rintro e w2 ⟨A2, c2, ts2, a2, er2, rfl, hi2, hl2, own2, hb2⟩
        have Own2 := Lib.hid own2
        have Hi2 := Lib.hid hi2
        clear own2 hi2
        go_wp2_with fail
        obtain ⟨c, hc⟩ : ∃ c : ByteArray, c = a ++ ⟨#[32]⟩ ++ b := ⟨_, rfl⟩
        rw [← hc]
        have H2 : Hid (Two a b c 32) := Two.of hc (by decide)
        clear hc
        refine (scan_good c _).mono ?_
        rintro e w3 ⟨A3, c3, ts3, a3, er3, rfl, hi3, hl3, own3, hb3⟩
        have Own3 := Lib.hid own3
        clear own3
        have b2 : Below w.heap.size w w2 := b1.trans (hb2.mono b1.size)
        have b3 : Below w.heap.size w w3 := b2.trans (hb3.mono b2.size)
        rcases scan_two H2.out ha' hb' Hi1.out Hi2.out with ⟨rfl, hs⟩ | ⟨rfl, rfl, hib, hs⟩ | ⟨rfl, rfl, rfl, rfl, hs⟩
        · obtain ⟨rfl, rfl, rfl⟩ := hi3.same hs
          clear hi3 hs hB1 hB2 b1 b2 hd1 hd2 hb2 hb3 hi0 hz0 hz1 hz2
          go_wp2_with fail
          refine (awake_any _).mono ?_
          rintro e w5 ⟨rfl, hb5⟩
          go_wp2
          go_ret
          exact ⟨rfl, b3.trans (hb5.mono b3.size)⟩
        · obtain ⟨rfl, rfl, rfl⟩ := hi3.same hs
          clear hi3 hs hB1 hB2 b1 b2 hd1 hd2 hb2 hb3 hi0 hz0 hz1 hz2
          go_wp2_with fail
          refine (awake_any _).mono ?_
          rintro e w5 ⟨rfl, hb5⟩
          go_wp2
          go_ret
          exact ⟨rfl, b3.trans (hb5.mono b3.size)⟩
        · obtain ⟨rfl, rfl, rfl⟩ := hi3.same hs
          have la := toks_len a.data.toList 0
          have lb := toks_len b.data.toList 0
          have hin : Hid (∀ p ∈ toks b.data.toList 0, p.1 < 1501) := fun p hp => by have := toks_in hp; simp at this; omega
          have HT := Lib.hid (cells_two H2.out)
          generalize toks a.data.toList 0 = Ta at *
          generalize toks b.data.toList 0 = Tb at *
          generalize toks c.data.toList 0 = Tc at *
          have ho1 : w3.ownsRow B1 29 2 (.slice A1 Ta.length c1) Ta.length (cellsOf a Ta) := own_below (own_below Own1.out hb2) hb3
          have ho2 : w3.ownsRow w1.heap.size 29 2 (.slice A2 Tb.length c2) Tb.length (mix b (a.size + 1) Tb 0) := own_below Own2.out hb3
          have hq1 : ∀ g, (Value.slice A1 Ta.length c1).ownBlock = some g → g < w1.heap.size := fun g hg => (Own1.out.lt g hg).2
          have hq2 : ∀ g, (Value.slice A2 Tb.length c2).ownBlock = some g → g < w2.heap.size := fun g hg => (Own2.out.lt g hg).2
          have H0 : Hid (LocRel w B1 w1.heap.size w2.heap.size (.slice A1 Ta.length c1) (.slice A2 Tb.length c2) (.slice A3 Tc.length c3) Ta.length Tc.length (cellsOf a Ta) (cellsOf c Tc) b (a.size + 1) Tb 0 w3) :=
            ⟨ho1, ho2, Own3.out, b3, hB1, hq1, hq2, hB2, hb2.size, hb3.size⟩
          clear ho1 ho2 hq1 hq2
          go_wp2_with fail
          go_loopw [88] (fun i wr => ∃ k : Nat, k ≤ Tb.length ∧ i = .int .i64 k ∧ Hid (LocRel w B1 w1.heap.size w2.heap.size (.slice A1 Ta.length c1) (.slice A2 Tb.length c2) (.slice A3 Tc.length c3) Ta.length Tc.length (cellsOf a Ta) (cellsOf c Tc) b (a.size + 1) Tb k wr)) (fun i _ => Tb.length - (intOf i).toNat)
          case atStart => exact ⟨0, Nat.zero_le _, rfl, H0⟩
          case round =>
            obtain ⟨k, hk, rfl, hrel⟩ := hrel
            by_cases hlt : k < Tb.length
            · obtain ⟨gb, rfl, hgb, hgs⟩ := own_at hrel.out.2.1 (by omega)
              have hpk : Tb[k].1 < 1501 := hin.out _ (List.getElem_mem _)
              have hcell : wr.cell? ⟨gb, k * 2 + 1, none⟩ = some (.int .i64 (Tb[k].1 : Nat)) := by rw [hrel.out.2.1.cellAt _ (by omega)]; exact mix_at b _ Tb k hlt
              have hfro : wr.frozen? ⟨gb, k * 2 + 1, none⟩ = false := hrel.out.2.1.frozenAt _
              have hset := Lib.hid (mix_set b (a.size + 1) Tb k hlt)
              obtain ⟨z, hz⟩ : ∃ z, z = Tb[k].1 := ⟨_, rfl⟩
              rw [← hz] at hpk hcell hset
              clear hz
              go_wp2
              go_light
              exact ⟨⟨k + 1, by omega, by go_num, loc_step hrel.out hset.out⟩, by simp [intOf]; omega⟩
            · obtain rfl : k = Tb.length := by omega
              obtain ⟨g1, g2, g3, g4, g5, g6, g7, g8, g9, g10⟩ := hrel.out
              rw [mix_all] at g2
              have G1 := Lib.hid g1
              have G2 := Lib.hid (Rd.own g2)
              have h63 : Ta.length + Tb.length ≤ maxLen := by simp only [maxLen]; omega
              have hby24 : (Ta.length + Tb.length) * 24 ≤ 140737488355328 := by omega
              have hbs : B1 ≤ wr.heap.size := by omega
              have hne : (Value.slice A3 Tc.length c3).ownBlock ≠ (Value.slice A1 Ta.length c1).ownBlock ∨ (Value.slice A3 Tc.length c3).ownBlock = none := by
                cases he : (Value.slice A3 Tc.length c3).ownBlock with
                | none => exact .inr rfl
                | some g => exact .inl (fun e => by have h1 := (g3.lt g he).1; have h2 := g6 g e.symm; omega)
              have G3 := Lib.hid g3
              have G4 := Lib.hid g4
              have hone := up_one b (a.size + 1) Tb
              clear g1 g2 g3 g4
              go_wp2_with (at_builtin; go_must (refine wpList_append_rd _ rfl (.tmp 105) (.tmp 106) 23 rfl B1 29 i0 (.agg #[.string ⟨#[]⟩, .int .i64 0]) 2 24 Try.underlying23 hi0 hz0 hz1 hz2 rfl (by decide) _ Ta.length _ rfl G1.out _ A2 Tb.length c2 _ rfl G2.out hone h63 hby24 hbs ?_); intro v4 w4 hown4 hgrow4)
              have own3' : w4.ownsRow w2.heap.size 29 2 (.slice A3 Tc.length c3) Tc.length (cellsOf c Tc) := G3.out.kept hgrow4 (hne.elim (fun h => .inr h) .inl)
              obtain ⟨A4, c4, rfl⟩ := own_slice hown4
              have hlen : Tc.length = Ta.length + Tb.length := by
                have h1 := own3'.1
                have h2 := hown4.1
                rw [HT.out] at h1
                omega
              have b4 : Below w.heap.size w w4 := G4.out.grown hgrow4 (by omega) (fun g hg => by have := (G1.out.lt g hg).1; omega)
              rw [← hlen, ← HT.out] at hown4
              rw [← hlen]
              refine (eqTok_same A3 A4 Tc.length c3 c4 _ _ (Tc.map (tk c)) _ (by omega) (by rw [← cells_tok]; exact Rd.own own3') (by rw [← cells_tok]; exact Rd.own hown4)).mono ?_
              rintro e w' ⟨rfl, q, rfl⟩
              have b5 := below_drewN b4 q
              have hlen' := Lib.hid hlen
              clear hlen hown4 own3' hgrow4
              go_wp2_with fail
              refine (awake_any _).mono ?_
              rintro e w5 ⟨rfl, hb5⟩
              go_wp2
              go_ret
              exact ⟨rfl, b5.trans (hb5.mono b5.size)⟩
      · go_enter Try.func8, Try.ntmps8
        go_wp2_with fail
        refine (scan_from (w := w) a ((Below.refl _ w).alloc (Nat.le_refl _) _)).mono ?_
        rintro e w1 ⟨A1, c1, ts1, a1, er1, B1, rfl, hi1, hl1, own1, b1, hB1, hB2⟩
        have Own1 := Lib.hid own1
        have Hi1 := Lib.hid hi1
        clear own1 hi1
        go_wp2_with fail
        refine (scan_good b _).mono ?_
        rintro e w2 ⟨A2, c2, ts2, a2, er2, rfl, hi2, hl2, own2, hb2⟩
        have Own2 := Lib.hid own2
        have Hi2 := Lib.hid hi2
        clear own2 hi2
        go_wp2_with fail
        obtain ⟨c, hc⟩ : ∃ c : ByteArray, c = a ++ ⟨#[9]⟩ ++ b := ⟨_, rfl⟩
        rw [← hc]
        have H2 : Hid (Two a b c 9) := Two.of hc (by decide)
        clear hc
        refine (scan_good c _).mono ?_
        rintro e w3 ⟨A3, c3, ts3, a3, er3, rfl, hi3, hl3, own3, hb3⟩
        have Own3 := Lib.hid own3
        clear own3
        have b2 : Below w.heap.size w w2 := b1.trans (hb2.mono b1.size)
        have b3 : Below w.heap.size w w3 := b2.trans (hb3.mono b2.size)
        rcases scan_two H2.out ha' hb' Hi1.out Hi2.out with ⟨rfl, hs⟩ | ⟨rfl, rfl, hib, hs⟩ | ⟨rfl, rfl, rfl, rfl, hs⟩
        · obtain ⟨rfl, rfl, rfl⟩ := hi3.same hs
          clear hi3 hs hB1 hB2 b1 b2 hd1 hd2 hb2 hb3 hi0 hz0 hz1 hz2
          go_wp2_with fail
          refine (awake_any _).mono ?_
          rintro e w5 ⟨rfl, hb5⟩
          go_wp2
          go_ret
          exact ⟨rfl, b3.trans (hb5.mono b3.size)⟩
        · obtain ⟨rfl, rfl, rfl⟩ := hi3.same hs
          clear hi3 hs hB1 hB2 b1 b2 hd1 hd2 hb2 hb3 hi0 hz0 hz1 hz2
          go_wp2_with fail
          refine (awake_any _).mono ?_
          rintro e w5 ⟨rfl, hb5⟩
          go_wp2
          go_ret
          exact ⟨rfl, b3.trans (hb5.mono b3.size)⟩
        · obtain ⟨rfl, rfl, rfl⟩ := hi3.same hs
          have la := toks_len a.data.toList 0
          have lb := toks_len b.data.toList 0
          have hin : Hid (∀ p ∈ toks b.data.toList 0, p.1 < 1501) := fun p hp => by have := toks_in hp; simp at this; omega
          have HT := Lib.hid (cells_two H2.out)
          generalize toks a.data.toList 0 = Ta at *
          generalize toks b.data.toList 0 = Tb at *
          generalize toks c.data.toList 0 = Tc at *
          have ho1 : w3.ownsRow B1 29 2 (.slice A1 Ta.length c1) Ta.length (cellsOf a Ta) := own_below (own_below Own1.out hb2) hb3
          have ho2 : w3.ownsRow w1.heap.size 29 2 (.slice A2 Tb.length c2) Tb.length (mix b (a.size + 1) Tb 0) := own_below Own2.out hb3
          have hq1 : ∀ g, (Value.slice A1 Ta.length c1).ownBlock = some g → g < w1.heap.size := fun g hg => (Own1.out.lt g hg).2
          have hq2 : ∀ g, (Value.slice A2 Tb.length c2).ownBlock = some g → g < w2.heap.size := fun g hg => (Own2.out.lt g hg).2
          have H0 : Hid (LocRel w B1 w1.heap.size w2.heap.size (.slice A1 Ta.length c1) (.slice A2 Tb.length c2) (.slice A3 Tc.length c3) Ta.length Tc.length (cellsOf a Ta) (cellsOf c Tc) b (a.size + 1) Tb 0 w3) :=
            ⟨ho1, ho2, Own3.out, b3, hB1, hq1, hq2, hB2, hb2.size, hb3.size⟩
          clear ho1 ho2 hq1 hq2
          go_wp2_with fail
          go_loopw [88] (fun i wr => ∃ k : Nat, k ≤ Tb.length ∧ i = .int .i64 k ∧ Hid (LocRel w B1 w1.heap.size w2.heap.size (.slice A1 Ta.length c1) (.slice A2 Tb.length c2) (.slice A3 Tc.length c3) Ta.length Tc.length (cellsOf a Ta) (cellsOf c Tc) b (a.size + 1) Tb k wr)) (fun i _ => Tb.length - (intOf i).toNat)
          case atStart => exact ⟨0, Nat.zero_le _, rfl, H0⟩
          case round =>
            obtain ⟨k, hk, rfl, hrel⟩ := hrel
            by_cases hlt : k < Tb.length
            · obtain ⟨gb, rfl, hgb, hgs⟩ := own_at hrel.out.2.1 (by omega)
              have hpk : Tb[k].1 < 1501 := hin.out _ (List.getElem_mem _)
              have hcell : wr.cell? ⟨gb, k * 2 + 1, none⟩ = some (.int .i64 (Tb[k].1 : Nat)) := by rw [hrel.out.2.1.cellAt _ (by omega)]; exact mix_at b _ Tb k hlt
              have hfro : wr.frozen? ⟨gb, k * 2 + 1, none⟩ = false := hrel.out.2.1.frozenAt _
              have hset := Lib.hid (mix_set b (a.size + 1) Tb k hlt)
              obtain ⟨z, hz⟩ : ∃ z, z = Tb[k].1 := ⟨_, rfl⟩
              rw [← hz] at hpk hcell hset
              clear hz
              go_wp2
              go_light
              exact ⟨⟨k + 1, by omega, by go_num, loc_step hrel.out hset.out⟩, by simp [intOf]; omega⟩
            · obtain rfl : k = Tb.length := by omega
              obtain ⟨g1, g2, g3, g4, g5, g6, g7, g8, g9, g10⟩ := hrel.out
              rw [mix_all] at g2
              have G1 := Lib.hid g1
              have G2 := Lib.hid (Rd.own g2)
              have h63 : Ta.length + Tb.length ≤ maxLen := by simp only [maxLen]; omega
              have hby24 : (Ta.length + Tb.length) * 24 ≤ 140737488355328 := by omega
              have hbs : B1 ≤ wr.heap.size := by omega
              have hne : (Value.slice A3 Tc.length c3).ownBlock ≠ (Value.slice A1 Ta.length c1).ownBlock ∨ (Value.slice A3 Tc.length c3).ownBlock = none := by
                cases he : (Value.slice A3 Tc.length c3).ownBlock with
                | none => exact .inr rfl
                | some g => exact .inl (fun e => by have h1 := (g3.lt g he).1; have h2 := g6 g e.symm; omega)
              have G3 := Lib.hid g3
              have G4 := Lib.hid g4
              have hone := up_one b (a.size + 1) Tb
              clear g1 g2 g3 g4
              go_wp2_with (at_builtin; go_must (refine wpList_append_rd _ rfl (.tmp 105) (.tmp 106) 23 rfl B1 29 i0 (.agg #[.string ⟨#[]⟩, .int .i64 0]) 2 24 Try.underlying23 hi0 hz0 hz1 hz2 rfl (by decide) _ Ta.length _ rfl G1.out _ A2 Tb.length c2 _ rfl G2.out hone h63 hby24 hbs ?_); intro v4 w4 hown4 hgrow4)
              have own3' : w4.ownsRow w2.heap.size 29 2 (.slice A3 Tc.length c3) Tc.length (cellsOf c Tc) := G3.out.kept hgrow4 (hne.elim (fun h => .inr h) .inl)
              obtain ⟨A4, c4, rfl⟩ := own_slice hown4
              have hlen : Tc.length = Ta.length + Tb.length := by
                have h1 := own3'.1
                have h2 := hown4.1
                rw [HT.out] at h1
                omega
              have b4 : Below w.heap.size w w4 := G4.out.grown hgrow4 (by omega) (fun g hg => by have := (G1.out.lt g hg).1; omega)
              rw [← hlen, ← HT.out] at hown4
              rw [← hlen]
              refine (eqTok_same A3 A4 Tc.length c3 c4 _ _ (Tc.map (tk c)) _ (by omega) (by rw [← cells_tok]; exact Rd.own own3') (by rw [← cells_tok]; exact Rd.own hown4)).mono ?_
              rintro e w' ⟨rfl, q, rfl⟩
              have b5 := below_drewN b4 q
              have hlen' := Lib.hid hlen
              clear hlen hown4 own3' hgrow4
              go_wp2_with fail
              refine (awake_any _).mono ?_
              rintro e w5 ⟨rfl, hb5⟩
              go_wp2
              go_ret
              exact ⟨rfl, b5.trans (hb5.mono b5.size)⟩
      · go_enter Try.func8, Try.ntmps8
        go_wp2_with fail
        refine (scan_from (w := w) a ((Below.refl _ w).alloc (Nat.le_refl _) _)).mono ?_
        rintro e w1 ⟨A1, c1, ts1, a1, er1, B1, rfl, hi1, hl1, own1, b1, hB1, hB2⟩
        have Own1 := Lib.hid own1
        have Hi1 := Lib.hid hi1
        clear own1 hi1
        go_wp2_with fail
        refine (scan_good b _).mono ?_
        rintro e w2 ⟨A2, c2, ts2, a2, er2, rfl, hi2, hl2, own2, hb2⟩
        have Own2 := Lib.hid own2
        have Hi2 := Lib.hid hi2
        clear own2 hi2
        go_wp2_with fail
        obtain ⟨c, hc⟩ : ∃ c : ByteArray, c = a ++ ⟨#[13]⟩ ++ b := ⟨_, rfl⟩
        rw [← hc]
        have H2 : Hid (Two a b c 13) := Two.of hc (by decide)
        clear hc
        refine (scan_good c _).mono ?_
        rintro e w3 ⟨A3, c3, ts3, a3, er3, rfl, hi3, hl3, own3, hb3⟩
        have Own3 := Lib.hid own3
        clear own3
        have b2 : Below w.heap.size w w2 := b1.trans (hb2.mono b1.size)
        have b3 : Below w.heap.size w w3 := b2.trans (hb3.mono b2.size)
        rcases scan_two H2.out ha' hb' Hi1.out Hi2.out with ⟨rfl, hs⟩ | ⟨rfl, rfl, hib, hs⟩ | ⟨rfl, rfl, rfl, rfl, hs⟩
        · obtain ⟨rfl, rfl, rfl⟩ := hi3.same hs
          clear hi3 hs hB1 hB2 b1 b2 hd1 hd2 hb2 hb3 hi0 hz0 hz1 hz2
          go_wp2_with fail
          refine (awake_any _).mono ?_
          rintro e w5 ⟨rfl, hb5⟩
          go_wp2
          go_ret
          exact ⟨rfl, b3.trans (hb5.mono b3.size)⟩
        · obtain ⟨rfl, rfl, rfl⟩ := hi3.same hs
          clear hi3 hs hB1 hB2 b1 b2 hd1 hd2 hb2 hb3 hi0 hz0 hz1 hz2
          go_wp2_with fail
          refine (awake_any _).mono ?_
          rintro e w5 ⟨rfl, hb5⟩
          go_wp2
          go_ret
          exact ⟨rfl, b3.trans (hb5.mono b3.size)⟩
        · obtain ⟨rfl, rfl, rfl⟩ := hi3.same hs
          have la := toks_len a.data.toList 0
          have lb := toks_len b.data.toList 0
          have hin : Hid (∀ p ∈ toks b.data.toList 0, p.1 < 1501) := fun p hp => by have := toks_in hp; simp at this; omega
          have HT := Lib.hid (cells_two H2.out)
          generalize toks a.data.toList 0 = Ta at *
          generalize toks b.data.toList 0 = Tb at *
          generalize toks c.data.toList 0 = Tc at *
          have ho1 : w3.ownsRow B1 29 2 (.slice A1 Ta.length c1) Ta.length (cellsOf a Ta) := own_below (own_below Own1.out hb2) hb3
          have ho2 : w3.ownsRow w1.heap.size 29 2 (.slice A2 Tb.length c2) Tb.length (mix b (a.size + 1) Tb 0) := own_below Own2.out hb3
          have hq1 : ∀ g, (Value.slice A1 Ta.length c1).ownBlock = some g → g < w1.heap.size := fun g hg => (Own1.out.lt g hg).2
          have hq2 : ∀ g, (Value.slice A2 Tb.length c2).ownBlock = some g → g < w2.heap.size := fun g hg => (Own2.out.lt g hg).2
          have H0 : Hid (LocRel w B1 w1.heap.size w2.heap.size (.slice A1 Ta.length c1) (.slice A2 Tb.length c2) (.slice A3 Tc.length c3) Ta.length Tc.length (cellsOf a Ta) (cellsOf c Tc) b (a.size + 1) Tb 0 w3) :=
            ⟨ho1, ho2, Own3.out, b3, hB1, hq1, hq2, hB2, hb2.size, hb3.size⟩
          clear ho1 ho2 hq1 hq2
          go_wp2_with fail
          go_loopw [88] (fun i wr => ∃ k : Nat, k ≤ Tb.length ∧ i = .int .i64 k ∧ Hid (LocRel w B1 w1.heap.size w2.heap.size (.slice A1 Ta.length c1) (.slice A2 Tb.length c2) (.slice A3 Tc.length c3) Ta.length Tc.length (cellsOf a Ta) (cellsOf c Tc) b (a.size + 1) Tb k wr)) (fun i _ => Tb.length - (intOf i).toNat)
          case atStart => exact ⟨0, Nat.zero_le _, rfl, H0⟩
          case round =>
            obtain ⟨k, hk, rfl, hrel⟩ := hrel
            by_cases hlt : k < Tb.length
            · obtain ⟨gb, rfl, hgb, hgs⟩ := own_at hrel.out.2.1 (by omega)
              have hpk : Tb[k].1 < 1501 := hin.out _ (List.getElem_mem _)
              have hcell : wr.cell? ⟨gb, k * 2 + 1, none⟩ = some (.int .i64 (Tb[k].1 : Nat)) := by rw [hrel.out.2.1.cellAt _ (by omega)]; exact mix_at b _ Tb k hlt
              have hfro : wr.frozen? ⟨gb, k * 2 + 1, none⟩ = false := hrel.out.2.1.frozenAt _
              have hset := Lib.hid (mix_set b (a.size + 1) Tb k hlt)
              obtain ⟨z, hz⟩ : ∃ z, z = Tb[k].1 := ⟨_, rfl⟩
              rw [← hz] at hpk hcell hset
              clear hz
              go_wp2
              go_light
              exact ⟨⟨k + 1, by omega, by go_num, loc_step hrel.out hset.out⟩, by simp [intOf]; omega⟩
            · obtain rfl : k = Tb.length := by omega
              obtain ⟨g1, g2, g3, g4, g5, g6, g7, g8, g9, g10⟩ := hrel.out
              rw [mix_all] at g2
              have G1 := Lib.hid g1
              have G2 := Lib.hid (Rd.own g2)
              have h63 : Ta.length + Tb.length ≤ maxLen := by simp only [maxLen]; omega
              have hby24 : (Ta.length + Tb.length) * 24 ≤ 140737488355328 := by omega
              have hbs : B1 ≤ wr.heap.size := by omega
              have hne : (Value.slice A3 Tc.length c3).ownBlock ≠ (Value.slice A1 Ta.length c1).ownBlock ∨ (Value.slice A3 Tc.length c3).ownBlock = none := by
                cases he : (Value.slice A3 Tc.length c3).ownBlock with
                | none => exact .inr rfl
                | some g => exact .inl (fun e => by have h1 := (g3.lt g he).1; have h2 := g6 g e.symm; omega)
              have G3 := Lib.hid g3
              have G4 := Lib.hid g4
              have hone := up_one b (a.size + 1) Tb
              clear g1 g2 g3 g4
              go_wp2_with (at_builtin; go_must (refine wpList_append_rd _ rfl (.tmp 105) (.tmp 106) 23 rfl B1 29 i0 (.agg #[.string ⟨#[]⟩, .int .i64 0]) 2 24 Try.underlying23 hi0 hz0 hz1 hz2 rfl (by decide) _ Ta.length _ rfl G1.out _ A2 Tb.length c2 _ rfl G2.out hone h63 hby24 hbs ?_); intro v4 w4 hown4 hgrow4)
              have own3' : w4.ownsRow w2.heap.size 29 2 (.slice A3 Tc.length c3) Tc.length (cellsOf c Tc) := G3.out.kept hgrow4 (hne.elim (fun h => .inr h) .inl)
              obtain ⟨A4, c4, rfl⟩ := own_slice hown4
              have hlen : Tc.length = Ta.length + Tb.length := by
                have h1 := own3'.1
                have h2 := hown4.1
                rw [HT.out] at h1
                omega
              have b4 : Below w.heap.size w w4 := G4.out.grown hgrow4 (by omega) (fun g hg => by have := (G1.out.lt g hg).1; omega)
              rw [← hlen, ← HT.out] at hown4
              rw [← hlen]
              refine (eqTok_same A3 A4 Tc.length c3 c4 _ _ (Tc.map (tk c)) _ (by omega) (by rw [← cells_tok]; exact Rd.own own3') (by rw [← cells_tok]; exact Rd.own hown4)).mono ?_
              rintro e w' ⟨rfl, q, rfl⟩
              have b5 := below_drewN b4 q
              have hlen' := Lib.hid hlen
              clear hlen hown4 own3' hgrow4
              go_wp2_with fail
              refine (awake_any _).mono ?_
              rintro e w5 ⟨rfl, hb5⟩
              go_wp2
              go_ret
              exact ⟨rfl, b5.trans (hb5.mono b5.size)⟩
      · go_enter Try.func8, Try.ntmps8
        go_wp2_with fail
        refine (scan_from (w := w) a ((Below.refl _ w).alloc (Nat.le_refl _) _)).mono ?_
        rintro e w1 ⟨A1, c1, ts1, a1, er1, B1, rfl, hi1, hl1, own1, b1, hB1, hB2⟩
        have Own1 := Lib.hid own1
        have Hi1 := Lib.hid hi1
        clear own1 hi1
        go_wp2_with fail
        refine (scan_good b _).mono ?_
        rintro e w2 ⟨A2, c2, ts2, a2, er2, rfl, hi2, hl2, own2, hb2⟩
        have Own2 := Lib.hid own2
        have Hi2 := Lib.hid hi2
        clear own2 hi2
        go_wp2_with fail
        obtain ⟨c, hc⟩ : ∃ c : ByteArray, c = a ++ ⟨#[10]⟩ ++ b := ⟨_, rfl⟩
        rw [← hc]
        have H2 : Hid (Two a b c 10) := Two.of hc (by decide)
        clear hc
        refine (scan_good c _).mono ?_
        rintro e w3 ⟨A3, c3, ts3, a3, er3, rfl, hi3, hl3, own3, hb3⟩
        have Own3 := Lib.hid own3
        clear own3
        have b2 : Below w.heap.size w w2 := b1.trans (hb2.mono b1.size)
        have b3 : Below w.heap.size w w3 := b2.trans (hb3.mono b2.size)
        rcases scan_two H2.out ha' hb' Hi1.out Hi2.out with ⟨rfl, hs⟩ | ⟨rfl, rfl, hib, hs⟩ | ⟨rfl, rfl, rfl, rfl, hs⟩
        · obtain ⟨rfl, rfl, rfl⟩ := hi3.same hs
          clear hi3 hs hB1 hB2 b1 b2 hd1 hd2 hb2 hb3 hi0 hz0 hz1 hz2
          go_wp2_with fail
          refine (awake_any _).mono ?_
          rintro e w5 ⟨rfl, hb5⟩
          go_wp2
          go_ret
          exact ⟨rfl, b3.trans (hb5.mono b3.size)⟩
        · obtain ⟨rfl, rfl, rfl⟩ := hi3.same hs
          clear hi3 hs hB1 hB2 b1 b2 hd1 hd2 hb2 hb3 hi0 hz0 hz1 hz2
          go_wp2_with fail
          refine (awake_any _).mono ?_
          rintro e w5 ⟨rfl, hb5⟩
          go_wp2
          go_ret
          exact ⟨rfl, b3.trans (hb5.mono b3.size)⟩
        · obtain ⟨rfl, rfl, rfl⟩ := hi3.same hs
          have la := toks_len a.data.toList 0
          have lb := toks_len b.data.toList 0
          have hin : Hid (∀ p ∈ toks b.data.toList 0, p.1 < 1501) := fun p hp => by have := toks_in hp; simp at this; omega
          have HT := Lib.hid (cells_two H2.out)
          generalize toks a.data.toList 0 = Ta at *
          generalize toks b.data.toList 0 = Tb at *
          generalize toks c.data.toList 0 = Tc at *
          have ho1 : w3.ownsRow B1 29 2 (.slice A1 Ta.length c1) Ta.length (cellsOf a Ta) := own_below (own_below Own1.out hb2) hb3
          have ho2 : w3.ownsRow w1.heap.size 29 2 (.slice A2 Tb.length c2) Tb.length (mix b (a.size + 1) Tb 0) := own_below Own2.out hb3
          have hq1 : ∀ g, (Value.slice A1 Ta.length c1).ownBlock = some g → g < w1.heap.size := fun g hg => (Own1.out.lt g hg).2
          have hq2 : ∀ g, (Value.slice A2 Tb.length c2).ownBlock = some g → g < w2.heap.size := fun g hg => (Own2.out.lt g hg).2
          have H0 : Hid (LocRel w B1 w1.heap.size w2.heap.size (.slice A1 Ta.length c1) (.slice A2 Tb.length c2) (.slice A3 Tc.length c3) Ta.length Tc.length (cellsOf a Ta) (cellsOf c Tc) b (a.size + 1) Tb 0 w3) :=
            ⟨ho1, ho2, Own3.out, b3, hB1, hq1, hq2, hB2, hb2.size, hb3.size⟩
          clear ho1 ho2 hq1 hq2
          go_wp2_with fail
          go_loopw [88] (fun i wr => ∃ k : Nat, k ≤ Tb.length ∧ i = .int .i64 k ∧ Hid (LocRel w B1 w1.heap.size w2.heap.size (.slice A1 Ta.length c1) (.slice A2 Tb.length c2) (.slice A3 Tc.length c3) Ta.length Tc.length (cellsOf a Ta) (cellsOf c Tc) b (a.size + 1) Tb k wr)) (fun i _ => Tb.length - (intOf i).toNat)
          case atStart => exact ⟨0, Nat.zero_le _, rfl, H0⟩
          case round =>
            obtain ⟨k, hk, rfl, hrel⟩ := hrel
            by_cases hlt : k < Tb.length
            · obtain ⟨gb, rfl, hgb, hgs⟩ := own_at hrel.out.2.1 (by omega)
              have hpk : Tb[k].1 < 1501 := hin.out _ (List.getElem_mem _)
              have hcell : wr.cell? ⟨gb, k * 2 + 1, none⟩ = some (.int .i64 (Tb[k].1 : Nat)) := by rw [hrel.out.2.1.cellAt _ (by omega)]; exact mix_at b _ Tb k hlt
              have hfro : wr.frozen? ⟨gb, k * 2 + 1, none⟩ = false := hrel.out.2.1.frozenAt _
              have hset := Lib.hid (mix_set b (a.size + 1) Tb k hlt)
              obtain ⟨z, hz⟩ : ∃ z, z = Tb[k].1 := ⟨_, rfl⟩
              rw [← hz] at hpk hcell hset
              clear hz
              go_wp2
              go_light
              exact ⟨⟨k + 1, by omega, by go_num, loc_step hrel.out hset.out⟩, by simp [intOf]; omega⟩
            · obtain rfl : k = Tb.length := by omega
              obtain ⟨g1, g2, g3, g4, g5, g6, g7, g8, g9, g10⟩ := hrel.out
              rw [mix_all] at g2
              have G1 := Lib.hid g1
              have G2 := Lib.hid (Rd.own g2)
              have h63 : Ta.length + Tb.length ≤ maxLen := by simp only [maxLen]; omega
              have hby24 : (Ta.length + Tb.length) * 24 ≤ 140737488355328 := by omega
              have hbs : B1 ≤ wr.heap.size := by omega
              have hne : (Value.slice A3 Tc.length c3).ownBlock ≠ (Value.slice A1 Ta.length c1).ownBlock ∨ (Value.slice A3 Tc.length c3).ownBlock = none := by
                cases he : (Value.slice A3 Tc.length c3).ownBlock with
                | none => exact .inr rfl
                | some g => exact .inl (fun e => by have h1 := (g3.lt g he).1; have h2 := g6 g e.symm; omega)
              have G3 := Lib.hid g3
              have G4 := Lib.hid g4
              have hone := up_one b (a.size + 1) Tb
              clear g1 g2 g3 g4
              go_wp2_with (at_builtin; go_must (refine wpList_append_rd _ rfl (.tmp 105) (.tmp 106) 23 rfl B1 29 i0 (.agg #[.string ⟨#[]⟩, .int .i64 0]) 2 24 Try.underlying23 hi0 hz0 hz1 hz2 rfl (by decide) _ Ta.length _ rfl G1.out _ A2 Tb.length c2 _ rfl G2.out hone h63 hby24 hbs ?_); intro v4 w4 hown4 hgrow4)
              have own3' : w4.ownsRow w2.heap.size 29 2 (.slice A3 Tc.length c3) Tc.length (cellsOf c Tc) := G3.out.kept hgrow4 (hne.elim (fun h => .inr h) .inl)
              obtain ⟨A4, c4, rfl⟩ := own_slice hown4
              have hlen : Tc.length = Ta.length + Tb.length := by
                have h1 := own3'.1
                have h2 := hown4.1
                rw [HT.out] at h1
                omega
              have b4 : Below w.heap.size w w4 := G4.out.grown hgrow4 (by omega) (fun g hg => by have := (G1.out.lt g hg).1; omega)
              rw [← hlen, ← HT.out] at hown4
              rw [← hlen]
              refine (eqTok_same A3 A4 Tc.length c3 c4 _ _ (Tc.map (tk c)) _ (by omega) (by rw [← cells_tok]; exact Rd.own own3') (by rw [← cells_tok]; exact Rd.own hown4)).mono ?_
              rintro e w' ⟨rfl, q, rfl⟩
              have b5 := below_drewN b4 q
              have hlen' := Lib.hid hlen
              clear hlen hown4 own3' hgrow4
              go_wp2_with fail
              refine (awake_any _).mono ?_
              rintro e w5 ⟨rfl, hb5⟩
              go_wp2
              go_ret
              exact ⟨rfl, b5.trans (hb5.mono b5.size)⟩
      · go_enter Try.func8, Try.ntmps8
        go_wp2_with fail
        refine (scan_from (w := w) a ((Below.refl _ w).alloc (Nat.le_refl _) _)).mono ?_
        rintro e w1 ⟨A1, c1, ts1, a1, er1, B1, rfl, hi1, hl1, own1, b1, hB1, hB2⟩
        have Own1 := Lib.hid own1
        have Hi1 := Lib.hid hi1
        clear own1 hi1
        go_wp2_with fail
        refine (scan_good b _).mono ?_
        rintro e w2 ⟨A2, c2, ts2, a2, er2, rfl, hi2, hl2, own2, hb2⟩
        have Own2 := Lib.hid own2
        have Hi2 := Lib.hid hi2
        clear own2 hi2
        go_wp2_with fail
        obtain ⟨c, hc⟩ : ∃ c : ByteArray, c = a ++ ⟨#[12]⟩ ++ b := ⟨_, rfl⟩
        rw [← hc]
        have H2 : Hid (Two a b c 12) := Two.of hc (by decide)
        clear hc
        refine (scan_good c _).mono ?_
        rintro e w3 ⟨A3, c3, ts3, a3, er3, rfl, hi3, hl3, own3, hb3⟩
        have Own3 := Lib.hid own3
        clear own3
        have b2 : Below w.heap.size w w2 := b1.trans (hb2.mono b1.size)
        have b3 : Below w.heap.size w w3 := b2.trans (hb3.mono b2.size)
        rcases scan_two H2.out ha' hb' Hi1.out Hi2.out with ⟨rfl, hs⟩ | ⟨rfl, rfl, hib, hs⟩ | ⟨rfl, rfl, rfl, rfl, hs⟩
        · obtain ⟨rfl, rfl, rfl⟩ := hi3.same hs
          clear hi3 hs hB1 hB2 b1 b2 hd1 hd2 hb2 hb3 hi0 hz0 hz1 hz2
          go_wp2_with fail
          refine (awake_any _).mono ?_
          rintro e w5 ⟨rfl, hb5⟩
          go_wp2
          go_ret
          exact ⟨rfl, b3.trans (hb5.mono b3.size)⟩
        · obtain ⟨rfl, rfl, rfl⟩ := hi3.same hs
          clear hi3 hs hB1 hB2 b1 b2 hd1 hd2 hb2 hb3 hi0 hz0 hz1 hz2
          go_wp2_with fail
          refine (awake_any _).mono ?_
          rintro e w5 ⟨rfl, hb5⟩
          go_wp2
          go_ret
          exact ⟨rfl, b3.trans (hb5.mono b3.size)⟩
        · obtain ⟨rfl, rfl, rfl⟩ := hi3.same hs
          have la := toks_len a.data.toList 0
          have lb := toks_len b.data.toList 0
          have hin : Hid (∀ p ∈ toks b.data.toList 0, p.1 < 1501) := fun p hp => by have := toks_in hp; simp at this; omega
          have HT := Lib.hid (cells_two H2.out)
          generalize toks a.data.toList 0 = Ta at *
          generalize toks b.data.toList 0 = Tb at *
          generalize toks c.data.toList 0 = Tc at *
          have ho1 : w3.ownsRow B1 29 2 (.slice A1 Ta.length c1) Ta.length (cellsOf a Ta) := own_below (own_below Own1.out hb2) hb3
          have ho2 : w3.ownsRow w1.heap.size 29 2 (.slice A2 Tb.length c2) Tb.length (mix b (a.size + 1) Tb 0) := own_below Own2.out hb3
          have hq1 : ∀ g, (Value.slice A1 Ta.length c1).ownBlock = some g → g < w1.heap.size := fun g hg => (Own1.out.lt g hg).2
          have hq2 : ∀ g, (Value.slice A2 Tb.length c2).ownBlock = some g → g < w2.heap.size := fun g hg => (Own2.out.lt g hg).2
          have H0 : Hid (LocRel w B1 w1.heap.size w2.heap.size (.slice A1 Ta.length c1) (.slice A2 Tb.length c2) (.slice A3 Tc.length c3) Ta.length Tc.length (cellsOf a Ta) (cellsOf c Tc) b (a.size + 1) Tb 0 w3) :=
            ⟨ho1, ho2, Own3.out, b3, hB1, hq1, hq2, hB2, hb2.size, hb3.size⟩
          clear ho1 ho2 hq1 hq2
          go_wp2_with fail
          go_loopw [88] (fun i wr => ∃ k : Nat, k ≤ Tb.length ∧ i = .int .i64 k ∧ Hid (LocRel w B1 w1.heap.size w2.heap.size (.slice A1 Ta.length c1) (.slice A2 Tb.length c2) (.slice A3 Tc.length c3) Ta.length Tc.length (cellsOf a Ta) (cellsOf c Tc) b (a.size + 1) Tb k wr)) (fun i _ => Tb.length - (intOf i).toNat)
          case atStart => exact ⟨0, Nat.zero_le _, rfl, H0⟩
          case round =>
            obtain ⟨k, hk, rfl, hrel⟩ := hrel
            by_cases hlt : k < Tb.length
            · obtain ⟨gb, rfl, hgb, hgs⟩ := own_at hrel.out.2.1 (by omega)
              have hpk : Tb[k].1 < 1501 := hin.out _ (List.getElem_mem _)
              have hcell : wr.cell? ⟨gb, k * 2 + 1, none⟩ = some (.int .i64 (Tb[k].1 : Nat)) := by rw [hrel.out.2.1.cellAt _ (by omega)]; exact mix_at b _ Tb k hlt
              have hfro : wr.frozen? ⟨gb, k * 2 + 1, none⟩ = false := hrel.out.2.1.frozenAt _
              have hset := Lib.hid (mix_set b (a.size + 1) Tb k hlt)
              obtain ⟨z, hz⟩ : ∃ z, z = Tb[k].1 := ⟨_, rfl⟩
              rw [← hz] at hpk hcell hset
              clear hz
              go_wp2
              go_light
              exact ⟨⟨k + 1, by omega, by go_num, loc_step hrel.out hset.out⟩, by simp [intOf]; omega⟩
            · obtain rfl : k = Tb.length := by omega
              obtain ⟨g1, g2, g3, g4, g5, g6, g7, g8, g9, g10⟩ := hrel.out
              rw [mix_all] at g2
              have G1 := Lib.hid g1
              have G2 := Lib.hid (Rd.own g2)
              have h63 : Ta.length + Tb.length ≤ maxLen := by simp only [maxLen]; omega
              have hby24 : (Ta.length + Tb.length) * 24 ≤ 140737488355328 := by omega
              have hbs : B1 ≤ wr.heap.size := by omega
              have hne : (Value.slice A3 Tc.length c3).ownBlock ≠ (Value.slice A1 Ta.length c1).ownBlock ∨ (Value.slice A3 Tc.length c3).ownBlock = none := by
                cases he : (Value.slice A3 Tc.length c3).ownBlock with
                | none => exact .inr rfl
                | some g => exact .inl (fun e => by have h1 := (g3.lt g he).1; have h2 := g6 g e.symm; omega)
              have G3 := Lib.hid g3
              have G4 := Lib.hid g4
              have hone := up_one b (a.size + 1) Tb
              clear g1 g2 g3 g4
              go_wp2_with (at_builtin; go_must (refine wpList_append_rd _ rfl (.tmp 105) (.tmp 106) 23 rfl B1 29 i0 (.agg #[.string ⟨#[]⟩, .int .i64 0]) 2 24 Try.underlying23 hi0 hz0 hz1 hz2 rfl (by decide) _ Ta.length _ rfl G1.out _ A2 Tb.length c2 _ rfl G2.out hone h63 hby24 hbs ?_); intro v4 w4 hown4 hgrow4)
              have own3' : w4.ownsRow w2.heap.size 29 2 (.slice A3 Tc.length c3) Tc.length (cellsOf c Tc) := G3.out.kept hgrow4 (hne.elim (fun h => .inr h) .inl)
              obtain ⟨A4, c4, rfl⟩ := own_slice hown4
              have hlen : Tc.length = Ta.length + Tb.length := by
                have h1 := own3'.1
                have h2 := hown4.1
                rw [HT.out] at h1
                omega
              have b4 : Below w.heap.size w w4 := G4.out.grown hgrow4 (by omega) (fun g hg => by have := (G1.out.lt g hg).1; omega)
              rw [← hlen, ← HT.out] at hown4
              rw [← hlen]
              refine (eqTok_same A3 A4 Tc.length c3 c4 _ _ (Tc.map (tk c)) _ (by omega) (by rw [← cells_tok]; exact Rd.own own3') (by rw [← cells_tok]; exact Rd.own hown4)).mono ?_
              rintro e w' ⟨rfl, q, rfl⟩
              have b5 := below_drewN b4 q
              have hlen' := Lib.hid hlen
              clear hlen hown4 own3' hgrow4
              go_wp2_with fail
              refine (awake_any _).mono ?_
              rintro e w5 ⟨rfl, hb5⟩
              go_wp2
              go_ret
              exact ⟨rfl, b5.trans (hb5.mono b5.size)⟩
end Go.Proofs.Ytflfeimmdpjbeaa.Tok
