/- Contracts of both Gaps. -/
import Derived.Test.YtflfeimmdpjbeaaLocalMath
import Derived.Test.YtflfeimmdpjbeaaAppend
import Derived.Test.YtflfeimmdpjbeaaKeywords
namespace Go.Proofs.Ytflfeimmdpjbeaa.Tok
open Go.RowKit Go.Proofs.Ytflfeimmdpjbeaa

theorem toksF_sorted (L : List UInt8) : ∀ (f i : Nat), (toksF L f i).Pairwise fun p q => p.2 ≤ q.1 := by
  intro f
  induction f with
  | zero => intro i; exact List.Pairwise.nil
  | succ f ih =>
    intro i
    unfold toksF
    cases hL : L[i]? with
    | none => exact List.Pairwise.nil
    | some b =>
      simp only
      by_cases hb : prB b = true
      · rw [if_pos hb]
        exact List.Pairwise.cons (fun q hq => (toksF_in L f _ q hq).1) (ih _)
      · rw [if_neg hb]
        exact ih _
theorem toks_sorted (L : List UInt8) (i : Nat) : (toks L i).Pairwise fun p q => p.2 ≤ q.1 := toksF_sorted L _ i

/-- Where the token before number k ends. -/
def endTo (ts : List (Nat × Nat)) (k : Nat) : Nat := if h : 0 < k ∧ k ≤ ts.length then (ts[k - 1]'(by omega)).2 else 0
theorem endTo_zero (ts : List (Nat × Nat)) : endTo ts 0 = 0 := by unfold endTo; rw [dif_neg (by omega)]
theorem endTo_succ (ts : List (Nat × Nat)) (k : Nat) (h : k < ts.length) : endTo ts (k + 1) = ts[k].2 := by unfold endTo; rw [dif_pos ⟨by omega, by omega⟩]; simp
theorem endTo_le {s : ByteArray} {ts : List (Nat × Nat)} (hs : ∀ p ∈ ts, p.1 < p.2 ∧ p.2 ≤ s.size) (k : Nat) : endTo ts k ≤ s.size := by
  unfold endTo
  split
  · exact (hs _ (List.getElem_mem _)).2
  · omega
theorem endTo_at {ts : List (Nat × Nat)} (hp : ts.Pairwise fun p q => p.2 ≤ q.1) (k : Nat) (h : k < ts.length) : endTo ts k ≤ ts[k].1 := by
  unfold endTo
  split
  · exact List.pairwise_iff_getElem.1 hp (k - 1) k (by omega) h (by omega)
  · omega

/-- The gap ahead of token k; all gaps. -/
def gapK (s : ByteArray) (ts : List (Nat × Nat)) (k : Nat) : ByteArray := if h : k < ts.length then s.extract (endTo ts k) ts[k].1 else s.extract (endTo ts k) s.size
def gapsTo (s : ByteArray) (ts : List (Nat × Nat)) (k : Nat) : List ByteArray := (List.range k).map (gapK s ts)
def gapsOf (s : ByteArray) (ts : List (Nat × Nat)) : List ByteArray := gapsTo s ts (ts.length + 1)
theorem gapsTo_succ (s : ByteArray) (ts : List (Nat × Nat)) (k : Nat) : gapsTo s ts (k + 1) = gapsTo s ts k ++ [gapK s ts k] := by
  unfold gapsTo
  rw [List.range_succ, List.map_append]
  rfl

theorem gapsOf_len (s : ByteArray) (ts : List (Nat × Nat)) : (gapsOf s ts).length = ts.length + 1 := by simp [gapsOf, gapsTo]
theorem own_base {w : World} {B B' e size n : Nat} {v : Value} {xs : List Value} (h : w.ownsRow B e size v n xs) (hB : B' ≤ B) : w.ownsRow B' e size v n xs := by
  refine ⟨h.1, ?_⟩
  rcases h.2 with h1 | ⟨g, cap, cur, hv, h1, h2⟩
  · exact .inl h1
  · exact .inr ⟨g, cap, cur, hv, Nat.le_trans hB h1, h2⟩

structure Ordered (s : ByteArray) (ts : List (Nat × Nat)) : Prop where
  inside : ∀ p ∈ ts, p.1 < p.2 ∧ p.2 ≤ s.size
  pair : ts.Pairwise fun p q => p.2 ≤ q.1
theorem ordered_of {s : ByteArray} {ts : List (Nat × Nat)} {a er : Nat} (h : ScanIs s ts a er) : Ordered s ts := by
  rcases h with ⟨_, rfl, _⟩ | ⟨_, _, rfl, _⟩ | ⟨_, _, _, _, rfl, _⟩ | ⟨_, _, _, rfl, _⟩
  · exact ⟨fun p hp => by simp at hp, List.Pairwise.nil⟩
  · exact ⟨fun p hp => by simp at hp, List.Pairwise.nil⟩
  · exact ⟨fun p hp => by simp at hp, List.Pairwise.nil⟩
  · exact ⟨fun p hp => by have := toks_in hp; simp at this; omega, toks_sorted _ _⟩
theorem size_of {s : ByteArray} {ts : List (Nat × Nat)} {a : Nat} (h : ScanIs s ts a 0) : s.size ≤ 40000 := by
  rcases h with ⟨_, _, _, h⟩ | ⟨h, _⟩ | ⟨h, _⟩ | ⟨h, _⟩
  · omega
  · exact h
  · exact h
  · exact h

def GapsGood (s : ByteArray) (w : World) (e : Ending) (w' : World) : Prop :=
  ∃ (A : Option Addr) (c : Nat) (gs : List ByteArray) (ts : List (Nat × Nat)) (a er : Nat), e = .returned (.tuple #[.slice A gs.length c, .int .i64 (er : Nat)]) ∧ ScanIs s ts a er ∧ ts.length ≤ 8000 ∧ gs = (if er = 0 then gapsOf s ts else []) ∧
    w'.ownsRow w.heap.size 9 1 (.slice A gs.length c) gs.length (gs.map Value.string) ∧ Below w.heap.size w w'

theorem ext_size (s : ByteArray) (i j : Nat) (h : i ≤ j) (hj : j ≤ s.size) : (s.extract i j).size = j - i := by
  rw [ByteArray.size_extract]
  omega

set_option maxHeartbeats 1600000 in
set_option maxRecDepth 4000 in
theorem gaps_any (s : ByteArray) (w : World) : Calls Try.prog 37 #[.string s] w (GapsGood s w) := by
  obtain ⟨i0, hi0, hz0, hz1, hz2⟩ := info_parts infoStr
  go_enter Try.func37, Try.ntmps37
  go_wp2_with fail
  refine (scan_good s _).mono ?_
  rintro e w1 ⟨A1, c1, ts, a, er, rfl, hi, hl, own1, hb1⟩
  have Own1 := Lib.hid own1
  have Hi := Lib.hid hi
  clear own1 hi
  by_cases her : er = 0
  · subst her
    have hsz := size_of Hi.out
    have ho := ordered_of Hi.out
    have HO := Lib.hid ho
    clear ho
    have hs1 : w.heap.size ≤ w1.heap.size := hb1.size
    go_wp2_with fail
    go_loopw [7, 8, 22] (fun v en i wr => ∃ k : Nat, k ≤ ts.length ∧ i = .int .i64 k ∧ en = .int .i64 (endTo ts k : Nat) ∧ wr.ownsRow w1.heap.size 9 1 v k ((gapsTo s ts k).map Value.string) ∧ Below w1.heap.size w1 wr ∧ w1.heap.size ≤ wr.heap.size) (fun _ _ i _ => ts.length - (intOf i).toNat)
    case atStart => exact ⟨0, Nat.zero_le _, rfl, by rw [endTo_zero]; rfl, World.ownsRow_nil _ _ _ _, Below.refl _ _, Nat.le_refl _⟩
    case round =>
      obtain ⟨k, hk, rfl, rfl, hown, hbw, hsw⟩ := hrel
      have hle : endTo ts k ≤ s.size := endTo_le HO.out.inside k
      by_cases hlt : k < ts.length
      · obtain ⟨gb, rfl, hgb, hgs⟩ := own_at Own1.out (by omega)
        have hpin := HO.out.inside _ (List.getElem_mem hlt)
        have hat := endTo_at HO.out.pair k hlt
        have hc0 : (cellsOf s ts)[k * 2]? = some (.string (s.extract ts[k].1 ts[k].2)) := flat2 (fun p => tokV (tk s p)) (fun _ => rfl) ts k 0 hlt (by omega)
        have hc1 : (cellsOf s ts)[k * 2 + 1]? = some (.int .i64 (ts[k].1 : Nat)) := flat2 (fun p => tokV (tk s p)) (fun _ => rfl) ts k 1 hlt (by omega)
        have hsu := Lib.hid (gapsTo_succ s ts k)
        have hgk := Lib.hid (show gapK s ts k = s.extract (endTo ts k) ts[k].1 by unfold gapK; rw [dif_pos hlt])
        have hes := Lib.hid (endTo_succ ts k hlt)
        have hext := Lib.hid (ext_size s ts[k].1 ts[k].2 (by omega) hpin.2)
        obtain ⟨x, hx⟩ : ∃ x, x = ts[k].1 := ⟨_, rfl⟩
        obtain ⟨y, hy⟩ : ∃ y, y = ts[k].2 := ⟨_, rfl⟩
        rw [← hx] at hc1 hat
        rw [← hx, ← hy] at hpin
        obtain ⟨wd, hwd⟩ : ∃ wd, wd = s.extract ts[k].1 ts[k].2 := ⟨_, rfl⟩
        rw [← hwd] at hc0
        have hwz : wd.size = y - x := by rw [hwd, hext.out, ← hx, ← hy]
        have Hx := Lib.hid hx
        have Hy := Lib.hid hy
        clear hx hy hwd hext
        obtain ⟨z, hz⟩ : ∃ z, z = endTo ts k := ⟨_, rfl⟩
        rw [← hz] at hat hle ⊢
        have Hz := Lib.hid hz
        clear hz
        obtain ⟨hp1, hp2⟩ := hpin
        have hsum : ((x : Int) + (wd.size : Int)) = (y : Int) := by rw [hwz]; omega
        have hy1 : (y : Int) ≤ 40000 := by omega
        have hcell0 : wr.cell? ⟨gb, k * 2, none⟩ = some (.string wd) := (hbw.cell (p := ⟨gb, k * 2, none⟩) hgs).trans ((Own1.out.cellAt (k * 2) (by omega)).trans hc0)
        have hcell1 : wr.cell? ⟨gb, k * 2 + 1, none⟩ = some (.int .i64 (x : Nat)) := (hbw.cell (p := ⟨gb, k * 2 + 1, none⟩) hgs).trans ((Own1.out.cellAt (k * 2 + 1) (by omega)).trans hc1)
        have h63 : k + 1 ≤ maxLen := by simp only [maxLen]; omega
        have hby : (k + 1) * 16 ≤ 140737488355328 := by omega
        have hbs2 : ∀ o o', w1.heap.size ≤ ((wr.alloc o).alloc o').heap.size := fun o o' => by simp; omega
        obtain ⟨A2, c2, rfl⟩ := own_slice hown
        have hgc := Lib.hid (show ∀ w2, ((wr.alloc (.cells #[.string wd, .int .i64 (x : Nat)] 29)).alloc (.cells #[.string (s.extract z x)] 9)).grownBy w2 (Value.slice A2 k c2).ownBlock →
            w2.cell? ⟨wr.heap.size, 0, none⟩ = some (.string wd) ∧ w2.cell? ⟨wr.heap.size, 1, none⟩ = some (.int .i64 (x : Nat)) from fun w2 hg => by
          have hnb : some wr.heap.size ≠ (Value.slice A2 k c2).ownBlock := fun e => by have := (hown.lt _ e.symm).2; omega
          exact ⟨hg.cell (a := ⟨wr.heap.size, 0, none⟩) (by simp) hnb, hg.cell (a := ⟨wr.heap.size, 1, none⟩) (by simp) hnb⟩)
        clear hc0 hc1 hwz
        go_wp2_with (at_builtin; go_must (refine wpList_append_own _ rfl (.tmp 26) (.tmp 32) 31 rfl w1.heap.size 9 i0 (.string ⟨#[]⟩) 1 16 Try.underlying31 hi0 hz0 hz1 hz2 rfl (by decide) _ _ _ rfl ((hown.alloc _).alloc _) ⟨wr.heap.size + 1, 0, none⟩ 1 1 [.string (s.extract z x)] rfl rfl (fun j u hu => one_new2 wr _ _ _ hu) (one_str _) h63 hby (hbs2 _ _) ?_); intro v2 w2 hown2 hgrow2 _; obtain ⟨ht0, ht1⟩ := hgc.out _ hgrow2)
        go_light
        have hsz2 := hgrow2.size
        have hal : ((wr.alloc (.cells #[.string wd, .int .i64 (x : Nat)] 29)).alloc (.cells #[.string (s.extract z x)] 9)).heap.size = wr.heap.size + 2 := by simp
        refine ⟨⟨k + 1, by omega, by go_num, by rw [hes.out, ← Hy.out], ?_, ((hbw.alloc hsw _).alloc (by simp; omega) _).grown hgrow2 (by omega) (fun j hj => (hown.lt j hj).1), by omega⟩, by simp [intOf]; omega⟩
        rw [hsu.out, List.map_append, hgk.out, ← Hz.out, ← Hx.out]
        exact hown2
      · obtain rfl : k = ts.length := by omega
        have hsu := Lib.hid (gapsTo_succ s ts ts.length)
        have hgk := Lib.hid (show gapK s ts ts.length = s.extract (endTo ts ts.length) s.size by unfold gapK; rw [dif_neg (by omega)])
        obtain ⟨z, hz⟩ : ∃ z, z = endTo ts ts.length := ⟨_, rfl⟩
        rw [← hz] at hle ⊢
        have Hz := Lib.hid hz
        clear hz
        have h63 : ts.length + 1 ≤ maxLen := by simp only [maxLen]; omega
        have hby : (ts.length + 1) * 16 ≤ 140737488355328 := by omega
        have hbs2 : ∀ o, w1.heap.size ≤ (wr.alloc o).heap.size := fun o => by simp; omega
        obtain ⟨A2, c2, rfl⟩ := own_slice hown
        go_wp2_with (at_builtin; go_must (refine wpList_append_own _ rfl (.tmp 41) (.tmp 45) 31 rfl w1.heap.size 9 i0 (.string ⟨#[]⟩) 1 16 Try.underlying31 hi0 hz0 hz1 hz2 rfl (by decide) _ _ _ rfl (hown.alloc _) ⟨wr.heap.size, 0, none⟩ 1 1 [.string (s.extract z s.size)] rfl rfl (fun j u hu => one_new wr _ _ hu) (one_str _) h63 hby (hbs2 _) ?_); intro v2 w2 hown2 hgrow2 _)
        go_ret2
        have hsz2 := hgrow2.size
        have hal : (wr.alloc (.cells #[.string (s.extract z s.size)] 9)).heap.size = wr.heap.size + 1 := by simp
        obtain ⟨A3, c3, rfl⟩ := own_slice hown2
        have hb2 : Below w1.heap.size w1 w2 := (hbw.alloc hsw _).grown hgrow2 (by omega) (fun j hj => (hown.lt j hj).1)
        have hl2 := gapsOf_len s ts
        refine ⟨A3, c3, gapsOf s ts, ts, a, 0, by rw [hl2]; rfl, Hi.out, hl, by rw [if_pos rfl], ?_, hb1.trans (hb2.mono hb1.size)⟩
        have e : (gapsOf s ts).map Value.string = (gapsTo s ts ts.length).map Value.string ++ [.string (s.extract z s.size)] := by
          unfold gapsOf
          rw [hsu.out, List.map_append, hgk.out, ← Hz.out]
          rfl
        rw [hl2, e]
        exact own_base hown2 hb1.size
  · have hn : ((er : Int) != 0) = true := by rw [bne_iff_ne]; omega
    go_wp2
    go_ret2
    exact ⟨none, 0, [], ts, a, er, rfl, Hi.out, hl, by rw [if_neg her], World.ownsRow_nil _ _ _ _, hb1⟩

set_option maxHeartbeats 1600000 in
set_option maxRecDepth 4000 in
theorem rgaps_any (s : ByteArray) (w : World) : Calls Try.prog 38 #[.string s] w (GapsGood s w) := by
  obtain ⟨i0, hi0, hz0, hz1, hz2⟩ := info_parts infoStr
  go_enter Try.func38, Try.ntmps38
  go_wp2_with fail
  refine (rscan_good s _).mono ?_
  rintro e w1 ⟨A1, c1, ts, a, er, rfl, hi, hl, own1, hb1⟩
  have Own1 := Lib.hid own1
  have Hi := Lib.hid hi
  clear own1 hi
  by_cases her : er = 0
  · subst her
    have hsz := size_of Hi.out
    have ho := ordered_of Hi.out
    have HO := Lib.hid ho
    clear ho
    have hs1 : w.heap.size ≤ w1.heap.size := hb1.size
    go_wp2_with fail
    go_loopw [7, 8, 9] (fun v en i wr => ∃ k : Nat, k ≤ ts.length ∧ i = .int .i64 k ∧ en = .int .i64 (endTo ts k : Nat) ∧ wr.ownsRow w1.heap.size 9 1 v k ((gapsTo s ts k).map Value.string) ∧ Below w1.heap.size w1 wr ∧ w1.heap.size ≤ wr.heap.size) (fun _ _ i _ => ts.length - (intOf i).toNat)
    case atStart => exact ⟨0, Nat.zero_le _, rfl, by rw [endTo_zero]; rfl, World.ownsRow_made _ _ _ (Nat.le_refl _) (by simp [maxLen]) rfl, (Below.refl _ _).alloc (Nat.le_refl _) _, by simp⟩
    case round =>
      obtain ⟨k, hk, rfl, rfl, hown, hbw, hsw⟩ := hrel
      have hle : endTo ts k ≤ s.size := endTo_le HO.out.inside k
      by_cases hlt : k < ts.length
      · obtain ⟨gb, rfl, hgb, hgs⟩ := own_at Own1.out (by omega)
        have hpin := HO.out.inside _ (List.getElem_mem hlt)
        have hat := endTo_at HO.out.pair k hlt
        have hc0 : (cellsOf s ts)[k * 2]? = some (.string (s.extract ts[k].1 ts[k].2)) := flat2 (fun p => tokV (tk s p)) (fun _ => rfl) ts k 0 hlt (by omega)
        have hc1 : (cellsOf s ts)[k * 2 + 1]? = some (.int .i64 (ts[k].1 : Nat)) := flat2 (fun p => tokV (tk s p)) (fun _ => rfl) ts k 1 hlt (by omega)
        have hsu := Lib.hid (gapsTo_succ s ts k)
        have hgk := Lib.hid (show gapK s ts k = s.extract (endTo ts k) ts[k].1 by unfold gapK; rw [dif_pos hlt])
        have hes := Lib.hid (endTo_succ ts k hlt)
        have hext := Lib.hid (ext_size s ts[k].1 ts[k].2 (by omega) hpin.2)
        obtain ⟨x, hx⟩ : ∃ x, x = ts[k].1 := ⟨_, rfl⟩
        obtain ⟨y, hy⟩ : ∃ y, y = ts[k].2 := ⟨_, rfl⟩
        rw [← hx] at hc1 hat
        rw [← hx, ← hy] at hpin
        obtain ⟨wd, hwd⟩ : ∃ wd, wd = s.extract ts[k].1 ts[k].2 := ⟨_, rfl⟩
        rw [← hwd] at hc0
        have hwz : wd.size = y - x := by rw [hwd, hext.out, ← hx, ← hy]
        have Hx := Lib.hid hx
        have Hy := Lib.hid hy
        clear hx hy hwd hext
        obtain ⟨z, hz⟩ : ∃ z, z = endTo ts k := ⟨_, rfl⟩
        rw [← hz] at hat hle ⊢
        have Hz := Lib.hid hz
        clear hz
        obtain ⟨hp1, hp2⟩ := hpin
        have hsum : IntKind.i64.wrap ((x : Int) + (wd.size : Int)) = (y : Int) := by rw [hwz, IntWalk.i64_in _ (by omega)]; omega
        have hy1 : (y : Int) ≤ 40000 := by omega
        have hcell0 : wr.cell? ⟨gb, k * 2, none⟩ = some (.string wd) := (hbw.cell (p := ⟨gb, k * 2, none⟩) hgs).trans ((Own1.out.cellAt (k * 2) (by omega)).trans hc0)
        have hcell1 : wr.cell? ⟨gb, k * 2 + 1, none⟩ = some (.int .i64 (x : Nat)) := (hbw.cell (p := ⟨gb, k * 2 + 1, none⟩) hgs).trans ((Own1.out.cellAt (k * 2 + 1) (by omega)).trans hc1)
        have h63 : k + 1 ≤ maxLen := by simp only [maxLen]; omega
        have hby : (k + 1) * 16 ≤ 140737488355328 := by omega
        have hbs2 : ∀ o, w1.heap.size ≤ (wr.alloc o).heap.size := fun o => by simp; omega
        obtain ⟨A2, c2, rfl⟩ := own_slice hown
        have hgc := Lib.hid (show ∀ w2, (wr.alloc (.cells #[.string (s.extract z x)] 9)).grownBy w2 (Value.slice A2 k c2).ownBlock →
            w2.cell? ⟨gb, k * 2, none⟩ = some (.string wd) ∧ w2.cell? ⟨gb, k * 2 + 1, none⟩ = some (.int .i64 (x : Nat)) from fun w2 hg => by
          have hnb : some gb ≠ (Value.slice A2 k c2).ownBlock := fun e => by have := (hown.lt _ e.symm).1; omega
          have hlw : gb < wr.heap.size := by omega
          exact ⟨hg.cell (a := ⟨gb, k * 2, none⟩) (by rw [World.cell?_alloc_lt wr _ ⟨gb, k * 2, none⟩ hlw]; exact hcell0) hnb,
            hg.cell (a := ⟨gb, k * 2 + 1, none⟩) (by rw [World.cell?_alloc_lt wr _ ⟨gb, k * 2 + 1, none⟩ hlw]; exact hcell1) hnb⟩)
        clear hc0 hc1 hwz
        go_wp2_with (at_builtin; go_must (refine wpList_append_own _ rfl (.tmp 26) (.tmp 35) 31 rfl w1.heap.size 9 i0 (.string ⟨#[]⟩) 1 16 Try.underlying31 hi0 hz0 hz1 hz2 rfl (by decide) _ _ _ rfl (hown.alloc _) ⟨wr.heap.size, 0, none⟩ 1 1 [.string (s.extract z x)] rfl rfl (fun j u hu => one_new wr _ _ hu) (one_str _) h63 hby (hbs2 _) ?_); intro v2 w2 hown2 hgrow2 _; obtain ⟨ht0, ht1⟩ := hgc.out _ hgrow2)
        clear hcell0 hcell1
        have Hown2 := Lib.hid hown2
        have Hgrow2 := Lib.hid hgrow2
        clear hown2 hgrow2
        go_quiet (fail)
        go_wp2
        go_light
        have hsz2 := Hgrow2.out.size
        have hal : (wr.alloc (.cells #[.string (s.extract z x)] 9)).heap.size = wr.heap.size + 1 := by simp
        refine ⟨⟨k + 1, by omega, by go_num, by rw [hes.out, ← Hy.out], ?_, below_drewN ((hbw.alloc hsw _).grown Hgrow2.out (by omega) (fun j hj => (hown.lt j hj).1)) _, by show _ ≤ w2.heap.size; omega⟩, by simp [intOf]; omega⟩
        rw [hsu.out, List.map_append, hgk.out, ← Hz.out, ← Hx.out]
        exact Hown2.out
      · obtain rfl : k = ts.length := by omega
        have hsu := Lib.hid (gapsTo_succ s ts ts.length)
        have hgk := Lib.hid (show gapK s ts ts.length = s.extract (endTo ts ts.length) s.size by unfold gapK; rw [dif_neg (by omega)])
        obtain ⟨z, hz⟩ : ∃ z, z = endTo ts ts.length := ⟨_, rfl⟩
        rw [← hz] at hle ⊢
        have Hz := Lib.hid hz
        clear hz
        have h63 : ts.length + 1 ≤ maxLen := by simp only [maxLen]; omega
        have hby : (ts.length + 1) * 16 ≤ 140737488355328 := by omega
        have hbs2 : ∀ o, w1.heap.size ≤ (wr.alloc o).heap.size := fun o => by simp; omega
        obtain ⟨A2, c2, rfl⟩ := own_slice hown
        go_wp2_with (at_builtin; go_must (refine wpList_append_own _ rfl (.tmp 49) (.tmp 53) 31 rfl w1.heap.size 9 i0 (.string ⟨#[]⟩) 1 16 Try.underlying31 hi0 hz0 hz1 hz2 rfl (by decide) _ _ _ rfl (hown.alloc _) ⟨wr.heap.size, 0, none⟩ 1 1 [.string (s.extract z s.size)] rfl rfl (fun j u hu => one_new wr _ _ hu) (one_str _) h63 hby (hbs2 _) ?_); intro v2 w2 hown2 hgrow2 _)
        go_ret2
        have hsz2 := hgrow2.size
        have hal : (wr.alloc (.cells #[.string (s.extract z s.size)] 9)).heap.size = wr.heap.size + 1 := by simp
        obtain ⟨A3, c3, rfl⟩ := own_slice hown2
        have hb2 : Below w1.heap.size w1 w2 := (hbw.alloc hsw _).grown hgrow2 (by omega) (fun j hj => (hown.lt j hj).1)
        have hl2 := gapsOf_len s ts
        refine ⟨A3, c3, gapsOf s ts, ts, a, 0, by rw [hl2]; rfl, Hi.out, hl, by rw [if_pos rfl], ?_, hb1.trans (hb2.mono hb1.size)⟩
        have e : (gapsOf s ts).map Value.string = (gapsTo s ts ts.length).map Value.string ++ [.string (s.extract z s.size)] := by
          unfold gapsOf
          rw [hsu.out, List.map_append, hgk.out, ← Hz.out]
          rfl
        rw [hl2, e]
        exact own_base hown2 hb1.size
  · have hn : ((er : Int) != 0) = true := by rw [bne_iff_ne]; omega
    go_wp2
    go_ret2
    exact ⟨none, 0, [], ts, a, er, rfl, Hi.out, hl, by rw [if_neg her], World.ownsRow_nil _ _ _ _, hb1⟩
end Go.Proofs.Ytflfeimmdpjbeaa.Tok
