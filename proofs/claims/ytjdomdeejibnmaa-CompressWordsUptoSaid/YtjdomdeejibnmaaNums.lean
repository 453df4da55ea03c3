/- Contract of the program's Numbers of letters: a loop over its own iterator. -/
import Derived.RangeFuncBox
import Derived.RangeFuncFrom
import Derived.Maps.AppendAt
import Derived.Test.YtjdomdeejibnmaaDecode
namespace Go.Proofs.Ytjdomdeejibnmaa.Tok
open Go.RowKit Go.Shelf Go.Proofs.Ytjdomdeejibnmaa
attribute [local go_sem] Oper.semAt_some

theorem decode_stops (F : Fence) (n : Nat) (hF : F.fn 40) (hro : F.round = none) (hn : 1 ≤ n) (Bn : Nat) (s : ByteArray) (hs : s.size ≤ 40000) (w : World) (hBn : Bn < w.heap.size)
    (hc : w.cell? ⟨Bn, 0, none⟩ = some (.string s)) :
    SeqStopsK F n Try.prog 40 #[.pointer (some ⟨Bn, 0, none⟩)] encY (keepS Bn) (fun ys => ys = ysF s.data.toList) (fun pre => pre <+: ysF s.data.toList) (s.size + 1) w := fun l J Jx W hW _ _ hY h0 =>
  decode1_in F n hF hro hn l Bn s hs J Jx hY W ((hW.cell (p := ⟨Bn, 0, none⟩) hBn).trans hc) h0

/-- The numbers of what has come. -/
def nums (pre : List (Int × Bool)) : List Int := pre.map (·.1)
theorem nums_snoc (pre : List (Int × Bool)) (x : Int × Bool) : nums (pre ++ [x]) = nums pre ++ [x.1] := by simp [nums]
theorem all_ok {L : List UInt8} {ys : List (Int × Bool)} (hy : ys = ysF L) (ha : ∀ x ∈ ys, x.2 = true) : numsF L 0 0 0 = (nums ys, none) := by
  subst hy
  unfold ysF at ha ⊢
  obtain ⟨o, e, h⟩ : ∃ o e, numsF L 0 0 0 = (o, e) := ⟨_, _, rfl⟩
  rw [h] at ha ⊢
  cases e with
  | none => simp [errP, okP, nums, Function.comp_def]
  | some i => have := ha ((i : Int), false) (by simp [errP]); cases this
theorem one_bad {L : List UInt8} {pre : List (Int × Bool)} {a : Int} (hp : pre ++ [(a, false)] <+: ysF L) : ∃ (o : List Int) (i : Nat), numsF L 0 0 0 = (o, some i) ∧ a = (i : Int) := by
  obtain ⟨o, e, h⟩ : ∃ o e, numsF L 0 0 0 = (o, e) := ⟨_, _, rfl⟩
  have hm : (a, false) ∈ ysF L := hp.subset (by simp)
  unfold ysF at hm
  rw [h] at hm
  rcases List.mem_append.1 hm with h1 | h1
  · simp [okP] at h1
  · cases e with
    | none => simp [errP] at h1
    | some i =>
      simp [errP] at h1
      exact ⟨o, i, h, h1⟩

set_option maxHeartbeats 1000000 in
theorem decode_in (F : Fence) (n : Nat) (hF : F.fn 31) (hro : F.round = none) (s : ByteArray) (w : World) :
    CallsIn F n Try.prog 31 #[.string s] w fun e w' => e = .returned (.func (.func 40) #[] #[.pointer (some ⟨w.heap.size, 0, none⟩)]) ∧ w' = w.alloc (.cells #[.string s] 9) := by
  refine callsIn_of_wp Try.func31 rfl hF ?_ hro
  simp only [Try.ntmps31, List.size_toArray, List.length_cons, List.length_nil, Nat.reduceAdd, Nat.reduceSub, Array.replicate_succ, Array.replicate_zero, List.push_toArray, List.append_toArray, List.nil_append, List.cons_append]
  gi_wp2
  go_ret
  exact ⟨rfl, rfl⟩

theorem box_keeps {W W' : World} {row : Option Nat} {B : Nat} {t : TypeId} {v : Value} (h : Boxed W B t v) (hg : W.grownBy W' row) (hr : ∀ r, row = some r → ∃ o : Obj, W.heap[r]? = some o ∧ o.isCells = false) : Boxed W' B t v :=
  h.kept hg (fun e => by
    obtain ⟨o, ho, hc⟩ := hr B e.symm
    rw [show W.heap[B]? = _ from h] at ho
    cases ho
    cases hc)
theorem row_keeps {W W' : World} {row : Option Nat} {base size k : Nat} {e : TypeId} {v : Value} {xs : List Value} (h : W.ownsRow base e size v k xs) (hg : W.grownBy W' row) (hr : ∀ r, row = some r → ∃ o : Obj, W.heap[r]? = some o ∧ o.isCells = false) : W'.ownsRow base e size v k xs := by
  refine h.kept hg ?_
  rcases h.2 with ⟨rfl, _⟩ | ⟨g, cap, cur, rfl, _, hgb, _⟩
  · exact .inl rfl
  · refine .inr fun e' => ?_
    obtain ⟨o, ho, hc⟩ := hr g (by simpa [Value.ownBlock] using e'.symm)
    rw [hgb] at ho
    cases ho
    cases hc
theorem own_mono {W : World} {base base' size k : Nat} {e : TypeId} {v : Value} {xs : List Value} (h : W.ownsRow base e size v k xs) (hb : base' ≤ base) : W.ownsRow base' e size v k xs := by
  refine ⟨h.1, ?_⟩
  rcases h.2 with h1 | ⟨g, cap, cur, hv, hg, hr⟩
  · exact .inl h1
  · exact .inr ⟨g, cap, cur, hv, Nat.le_trans hb hg, hr⟩
theorem box_set_other {W : World} {B B' : Nat} {t : TypeId} {v : Value} (u : Value) (h : Boxed W B t v) (hne : B ≠ B') : Boxed (W.setCell ⟨B', 0, none⟩ u) B t v := (Below.heap_setCell _ _ _ _ (by simpa using hne)).trans h

/-- Between two rounds: the results' boxes, the list's, the text's. -/
structure NumI (w : World) (s : ByteArray) (pre : List (Int × Bool)) (W : World) (v : Value) : Prop where
  b0 : Boxed W w.heap.size 23 (.slice none 0 0)
  b1 : Boxed W (w.heap.size + 1) 3 (.int .i64 0)
  b2 : Boxed W (w.heap.size + 1 + 1) 29 (.int .i64 0)
  b3 : Boxed W (w.heap.size + 1 + 1 + 1) 23 v
  b4 : Boxed W (w.heap.size + 1 + 1 + 1 + 1) 9 (.string s)
  own : W.ownsRow (w.heap.size + 5) 3 1 v (nums pre).length ((nums pre).map (Value.int .i64))
  bel : Below w.heap.size w W
theorem NumI.keeps {w W W' : World} {s : ByteArray} {pre : List (Int × Bool)} {v : Value} {row : Option Nat} (h : NumI w s pre W v) (hg : W.grownBy W' row) (hr : ∀ r, row = some r → w.heap.size ≤ r ∧ ∃ o : Obj, W.heap[r]? = some o ∧ o.isCells = false) : NumI w s pre W' v :=
  have hr' := fun r e => (hr r e).2
  ⟨box_keeps h.b0 hg hr', box_keeps h.b1 hg hr', box_keeps h.b2 hg hr', box_keeps h.b3 hg hr', box_keeps h.b4 hg hr', row_keeps h.own hg hr', h.bel.grown hg h.bel.size (fun k e => (hr k e).1)⟩
theorem NumI.push {w W w1 : World} {s : ByteArray} {pre : List (Int × Bool)} {v v' : Value} {x : Int} {tmp : Obj} (h : NumI w s pre W v) (hown : w1.ownsRow (w.heap.size + 5) 3 1 v' ((nums pre).length + 1) ((nums pre).map (Value.int .i64) ++ [.int .i64 x]))
    (hg : (W.alloc tmp).grownBy w1 v.ownBlock) : Boxed w1 (w.heap.size + 1 + 1 + 1) 23 v ∧ NumI w s (pre ++ [(x, true)]) (w1.setCell ⟨w.heap.size + 1 + 1 + 1, 0, none⟩ v') v' ∧ KeepsOthers W (w1.setCell ⟨w.heap.size + 1 + 1 + 1, 0, none⟩ v') := by
  have hne : ∀ b, b < w.heap.size + 5 → some b ≠ v.ownBlock := fun b hb e => by have := (h.own.lt b e.symm).1; omega
  have h3 := (h.b3.alloc tmp).kept hg (hne _ (by omega))
  refine ⟨h3, ⟨box_set_other _ ((h.b0.alloc tmp).kept hg (hne _ (by omega))) (by omega), box_set_other _ ((h.b1.alloc tmp).kept hg (hne _ (by omega))) (by omega), box_set_other _ ((h.b2.alloc tmp).kept hg (hne _ (by omega))) (by omega), h3.set v', box_set_other _ ((h.b4.alloc tmp).kept hg (hne _ (by omega))) (by omega), ?_, ?_⟩, ?_⟩
  · rw [nums_snoc, List.length_append, List.map_append]
    exact ownsRow_setCell_below hown (by simp) _
  · have hs := h.bel.size
    exact ((h.bel.alloc hs tmp).grown hg (by simp; omega) (fun k e => by have := (h.own.lt k e).1; omega)).setCell (p := ⟨w.heap.size + 1 + 1 + 1, 0, none⟩) (by simp; omega) _
  · refine ((KeepsOthers.alloc W tmp).trans (KeepsOthers.of_grownBy hg fun j o ej hj => ?_)).trans (KeepsOthers.setCell _ _ _)
    rcases (h.own.alloc tmp).2 with ⟨rfl, _⟩ | ⟨g, cap, cur, rfl, _, hgb, _⟩
    · simp [Value.ownBlock] at ej
    · obtain rfl : g = j := by simpa [Value.ownBlock] using ej
      rw [hgb] at hj
      cases hj
      rfl
def NumX (w : World) (pre : List (Int × Bool)) (W : World) : Prop :=
  ∃ p a, pre = p ++ [(a, false)] ∧ Boxed W w.heap.size 23 (.slice none 0 0) ∧ Boxed W (w.heap.size + 1) 3 (.int .i64 a) ∧ Boxed W (w.heap.size + 1 + 1) 29 (.int .i64 21) ∧ Below w.heap.size w W

set_option maxRecDepth 100000 in
set_option maxHeartbeats 4000000 in
theorem numbers_in (F : Fence) (n : Nat) (hF : F.fn 17) (hF1 : F.fn 31) (hF2 : F.fn 40) (hro : F.round = none) (hn : 3 ≤ n) (s : ByteArray) (hs : s.size ≤ 40000) (w : World) :
    CallsIn F n Try.prog 17 #[.string s] w (NumGood s w) := by
  have h1 : 1 ≤ n := by omega
  obtain ⟨i0, hi, hz0, hz1, hz2⟩ := info_parts infoInt
  refine callsIn_of_wp_marks Try.func17 rfl hF ?_ hro
  simp only [Try.ntmps17, List.size_toArray, List.length_cons, List.length_nil, Nat.reduceAdd, Nat.reduceSub, Array.replicate_succ, Array.replicate_zero, List.push_toArray, List.append_toArray, List.nil_append, List.cons_append]
  gi_wp2_with (gi_at_call 31; refine (decode_in F (n - 1) hF1 hro s _).mono ?_; rintro e w' ⟨rfl, rfl⟩)
  have hI0 : NumI w s [] (((((w.alloc (.cells #[.slice none 0 0] 23)).alloc (.cells #[.int .i64 0] 3)).alloc (.cells #[.int .i64 0] 29)).alloc (.cells #[.slice none 0 0] 23)).alloc (.cells #[.string s] 9)) (.slice none 0 0) := by
    have b0 := Boxed.new w 23 (.slice none 0 0)
    have b1 := Boxed.new (w.alloc (.cells #[.slice none 0 0] 23)) 3 (.int .i64 0)
    have b2 := Boxed.new ((w.alloc (.cells #[.slice none 0 0] 23)).alloc (.cells #[.int .i64 0] 3)) 29 (.int .i64 0)
    have b3 := Boxed.new (((w.alloc (.cells #[.slice none 0 0] 23)).alloc (.cells #[.int .i64 0] 3)).alloc (.cells #[.int .i64 0] 29)) 23 (.slice none 0 0)
    have b4 := Boxed.new ((((w.alloc (.cells #[.slice none 0 0] 23)).alloc (.cells #[.int .i64 0] 3)).alloc (.cells #[.int .i64 0] 29)).alloc (.cells #[.slice none 0 0] 23)) 9 (.string s)
    simp only [World.size_alloc] at b1 b2 b3 b4
    exact ⟨(((b0.alloc _).alloc _).alloc _).alloc _, ((b1.alloc _).alloc _).alloc _, (b2.alloc _).alloc _, b3.alloc _, b4, World.ownsRow_nil _ _ _ _, (((((Below.refl _ w).alloc (Nat.le_refl _) _).alloc (by simp) _).alloc (by simp; omega) _).alloc (by simp; omega) _).alloc (by simp; omega) _⟩
  refine wpIn_rangeFunc_ownF hro h1 (gf := 40) (lb := #[.pointer (some ⟨w.heap.size + 1 + 1 + 1 + 1, 0, none⟩)]) rfl hF2 (enters_of Try.func40 (by kernel_rfl) rfl)
    (decode_stops F (n - 1) hF2 hro (by omega) (w.heap.size + 1 + 1 + 1 + 1) s hs _ (by simp) hI0.b4.cell) (fun h k => k.trans h)
    (fun W l o o' hl hh h1 h2 => (belowK_b (n₀ := w.heap.size + 5) (by simp) W l o o' hl hh h1 h2).cell (p := ⟨w.heap.size + 1 + 1 + 1 + 1, 0, none⟩) (by simp))
    (Below.refl _ _) (fun _ => rfl)
    (fun pre W => (∀ x ∈ pre, x.2 = true) ∧ ∃ v, NumI w s pre W v)
    (fun c pre W => c = .ret ∧ NumX w pre W)
    (fun pre A B row hs hg hr => ⟨hs.1, hs.2.choose, hs.2.choose_spec.keeps hg (fun r e => ⟨by have := (hr r e).1; simp at this; omega, (hr r e).2⟩)⟩)
    (fun c pre A B row hs hg hr => by
      obtain ⟨hc, p, a, hp, x0, x1, x2, xb⟩ := hs
      exact ⟨hc, p, a, hp, box_keeps x0 hg (fun r e => (hr r e).2), box_keeps x1 hg (fun r e => (hr r e).2), box_keeps x2 hg (fun r e => (hr r e).2), xb.grown hg xb.size (fun k e => by have := (hr k e).1; simp at this; omega)⟩)
    ⟨by simp, _, hI0⟩
    (fun x => { tmps := #[.string s, undef, .pointer (some ⟨w.heap.size, 0, none⟩), .pointer (some ⟨w.heap.size + 1, 0, none⟩), .pointer (some ⟨w.heap.size + 1 + 1, 0, none⟩), .pointer (some ⟨w.heap.size + 1 + 1 + 1, 0, none⟩), .int .i64 x.1, .bool x.2, .string s, .int .i64 s.size, .bool (decide ((40000 : Int) < (s.size : Int))), .string s,
      .func (.func 40) #[] #[.pointer (some ⟨w.heap.size + 1 + 1 + 1 + 1, 0, none⟩)], .int .i64 x.1, .bool x.2, undef, undef, undef, undef, undef, undef, undef, undef], defers := [] }) ?assign ?body ?done ?stop
  case assign =>
    intro l x W K hK
    dsimp only [encY]
    gi_wp2
    exact hK
  case body =>
    rintro l pre ⟨xn, xb⟩ W ⟨hok, v, hI⟩ hlt
    have HI := Lib.hid hI
    have c0 := hI.b0.cell
    have f0 := hI.b0.frozen
    have c1 := hI.b1.cell
    have f1 := hI.b1.frozen
    have c2 := hI.b2.cell
    have f2 := hI.b2.frozen
    have c3 := hI.b3.cell
    have hpl : (nums pre).length ≤ 40001 := by simp [nums]; omega
    have Hok := Lib.hid hok
    clear hI hok
    cases xb
    · gi_wp2
      exact ⟨((KeepsOthers.setCell _ _ _).trans (KeepsOthers.setCell _ _ _)).trans (KeepsOthers.setCell _ _ _), rfl, pre, xn, rfl,
        box_set_other _ (box_set_other _ (HI.out.b0.set _) (by omega)) (by omega), box_set_other _ ((box_set_other _ HI.out.b1 (by omega)).set _) (by omega), (box_set_other _ (box_set_other _ HI.out.b2 (by omega)) (by omega)).set _,
        ((HI.out.bel.setCell (p := ⟨w.heap.size, 0, none⟩) (by simp) _).setCell (p := ⟨w.heap.size + 1, 0, none⟩) (by simp) _).setCell (p := ⟨w.heap.size + 1 + 1, 0, none⟩) (by simp; omega) _⟩
    · gi_wp2_with (gi_at_builtin; refine wpListIn_append_own _ rfl _ _ 23 rfl (w.heap.size + 5) 3 i0 (.int .i64 0) 1 8 Try.underlying23 hi hz0 hz1 hz2 rfl (by decide) _ _ _ rfl (HI.out.own.alloc _) ⟨W.heap.size, 0, none⟩ 1 1 [.int .i64 xn] rfl rfl (fun j u hu => one_new W _ _ hu) (one_int _) (by simp only [maxLen]; omega) (by omega) (by have := HI.out.b4.lt; simp; omega) ?_; intro v' w1 hown' hgrow _; obtain ⟨g', cap', rfl⟩ := ownsRow_succ hown'; obtain ⟨hv1, hv2, hk2⟩ := HI.out.push hown' hgrow; have hc1 := hv1.cell; have hf1 := hv1.frozen)
      exact ⟨hk2, by show _ = _; rw [hv2.b4.cell, HI.out.b4.cell], fun x hx => by rcases List.mem_append.1 hx with h | h; exact Hok.out x h; simp at h; rw [h], _, hv2⟩
  case done =>
    rintro D ys W hD hys ⟨hok, v, hI⟩ hK
    have HI := Lib.hid hI
    have c0 := hI.b0.cell
    have f0 := hI.b0.frozen
    have c1 := hI.b1.cell
    have f1 := hI.b1.frozen
    have c2 := hI.b2.cell
    have f2 := hI.b2.frozen
    have c3 := hI.b3.cell
    obtain ⟨A, cp, rfl⟩ := own_slice hI.own
    have Hn := Lib.hid (all_ok hys hok)
    clear hI hys hok
    gi_wp2
    have hk := ((KeepsOthers.setCell W ⟨w.heap.size, 0, none⟩ (.slice A (nums ys).length cp)).trans (KeepsOthers.setCell _ ⟨w.heap.size + 1, 0, none⟩ (.int .i64 0))).trans (KeepsOthers.setCell _ ⟨w.heap.size + 1 + 1, 0, none⟩ (.int .i64 0))
    have hK' := hk.same D _ hK rfl
    have x0 := box_set_other (.int .i64 0) (box_set_other (.int .i64 0) (HI.out.b0.set (.slice A (nums ys).length cp)) (show w.heap.size ≠ w.heap.size + 1 by omega)) (show w.heap.size ≠ w.heap.size + 1 + 1 by omega)
    have x1 := box_set_other (.int .i64 0) ((box_set_other (.slice A (nums ys).length cp) HI.out.b1 (show w.heap.size + 1 ≠ w.heap.size by omega)).set (.int .i64 0)) (show w.heap.size + 1 ≠ w.heap.size + 1 + 1 by omega)
    have x2 := (box_set_other (.int .i64 0) (box_set_other (.slice A (nums ys).length cp) HI.out.b2 (show w.heap.size + 1 + 1 ≠ w.heap.size by omega)) (show w.heap.size + 1 + 1 ≠ w.heap.size + 1 by omega)).set (.int .i64 0)
    have xo := ownsRow_setCell_below (a := ⟨w.heap.size + 1 + 1, 0, none⟩) (ownsRow_setCell_below (a := ⟨w.heap.size + 1, 0, none⟩) (ownsRow_setCell_below (a := ⟨w.heap.size, 0, none⟩) HI.out.own (by simp) (.slice A (nums ys).length cp)) (by simp) (.int .i64 0)) (by simp) (.int .i64 0)
    have xb := ((HI.out.bel.setCell (p := ⟨w.heap.size, 0, none⟩) (by simp) (.slice A (nums ys).length cp)).setCell (p := ⟨w.heap.size + 1, 0, none⟩) (by simp) (.int .i64 0)).setCell (p := ⟨w.heap.size + 1 + 1, 0, none⟩) (by simp; omega) (.int .i64 0)
    refine ⟨by simp, .inl ⟨_, _, rfl, run_takeDeferred hK', ?_⟩⟩
    have k0 := (box_keeps x0 (grownBy_putObj' _ D (.deferred none)) (fun r e => by cases e; exact ⟨_, hK', rfl⟩)).cell
    have k1 := (box_keeps x1 (grownBy_putObj' _ D (.deferred none)) (fun r e => by cases e; exact ⟨_, hK', rfl⟩)).cell
    have k2 := (box_keeps x2 (grownBy_putObj' _ D (.deferred none)) (fun r e => by cases e; exact ⟨_, hK', rfl⟩)).cell
    refine ⟨.tuple #[.slice A (nums ys).length cp, .int .i64 0, .int .i64 0], ?_, A, cp, nums ys, 0, 0, rfl, .inr ⟨hs, .inr ⟨Hn.out, rfl, rfl⟩⟩, own_mono (ownsRow_putObj xo _ hK' rfl) (by omega), xb.trans (belowK_b (w := w) (Nat.le_refl _) _ D _ _ (by simp at hD; omega) hK' rfl rfl)⟩
    simp [results, Try.f17, go_sem, k0, k1, k2]
  case stop =>
    rintro D c pre W hD hpre ⟨rfl, p, a, rfl, x0, x1, x2, xb⟩ hK
    obtain ⟨o, i, ho, rfl⟩ := one_bad hpre
    gi_wp2
    refine ⟨by simp, .inl ⟨_, _, rfl, run_takeDeferred hK, ?_⟩⟩
    have k0 := (box_keeps x0 (grownBy_putObj' W D (.deferred none)) (fun r e => by cases e; exact ⟨_, hK, rfl⟩)).cell
    have k1 := (box_keeps x1 (grownBy_putObj' W D (.deferred none)) (fun r e => by cases e; exact ⟨_, hK, rfl⟩)).cell
    have k2 := (box_keeps x2 (grownBy_putObj' W D (.deferred none)) (fun r e => by cases e; exact ⟨_, hK, rfl⟩)).cell
    refine ⟨.tuple #[.slice none 0 0, .int .i64 (i : Int), .int .i64 21], ?_, num_err hs ho (xb.trans (belowK_b (w := w) (Nat.le_refl _) W D _ _ (by simp at hD; omega) hK rfl rfl))⟩
    simp [results, Try.f17, go_sem, k0, k1, k2]

theorem numbers_any (s : ByteArray) (w : World) : Calls Try.prog 17 #[.string s] w (NumGood s w) := by
  by_cases hs : s.size ≤ 40000
  · exact (callsIn_wide (n := 3)).1 (numbers_in _ 3 trivial trivial trivial rfl (Nat.le_refl _) s hs w)
  · have hbig : 40000 < (s.size : Int) := by omega
    go_enter Try.func17, Try.ntmps17
    go_wp2
    have b0 := Boxed.new w 23 (.slice none 0 0)
    have b1 := Boxed.new (w.alloc (.cells #[.slice none 0 0] 23)) 3 (.int .i64 0)
    have b2 := Boxed.new ((w.alloc (.cells #[.slice none 0 0] 23)).alloc (.cells #[.int .i64 0] 3)) 29 (.int .i64 4)
    simp only [World.size_alloc] at b1 b2
    have k0 := ((b0.alloc (.cells #[.int .i64 0] 3)).alloc (.cells #[.int .i64 4] 29)).cell
    have k1 := (b1.alloc (.cells #[.int .i64 4] 29)).cell
    have k2 := b2.cell
    refine bodyPost_ret (v := .tuple #[.slice none 0 0, .int .i64 0, .int .i64 4]) (by simp [results, Try.f17, go_sem, k0, k1, k2]) rfl ?_
    exact ⟨none, 0, [], 0, 4, rfl, .inl ⟨by omega, rfl, rfl, rfl⟩, World.ownsRow_nil _ _ _ _, (((Below.refl _ w).alloc (Nat.le_refl _) _).alloc (by simp) _).alloc (by simp; omega) _⟩
end Go.Proofs.Ytjdomdeejibnmaa.Tok
