/- Contract of Union. -/
import Derived.Test.YtdffgkhlkbaecaaSets
import Derived.Deep.RegionHeld3
import Derived.Deep.DrawnRows
import Derived.Deep.AppendLies
import Derived.StillTailTactics
import Derived.Deep.RegionLaw
import Derived.Deep.DeepCutAuto
namespace Go.Proofs.Ytdffgkhlkbaecaa.Tok
open Go.RowKit Go.Proofs.Ytdffgkhlkbaecaa
attribute [local go_sem ↓] Go.wp_at_zero Go.wp_at_succ

theorem infoUn : (Try.prog.info? 108).map (fun i => (i.zero, i.size, i.bytes)) = some (some (.agg #[.int .i64 0, .int .i64 0]), 2, 16) := by kernel_rfl
theorem own_apartS {w : World} {b : Nat} {e e' : TypeId} {z n : Nat} {v : Value} {xs : List Value} {k : Nat} {cs : Array Value} {fr : Nat × Nat} (h : w.ownsRow b e z v n xs) (h' : w.heap[k]? = some (.cells cs e' fr)) (hne : e ≠ e') : some k ≠ v.ownBlock := by
  rcases h.2 with ⟨rfl, _⟩ | ⟨g, cap, cur, rfl, _, h1, _⟩
  · intro he; cases he
  · intro he
    injection he with he
    subst he
    rw [h1] at h'
    injection h' with h'
    injection h' with h' _
    exact hne (by assumption)

/-- Rows of other types than those of the sets. -/
def KT (t : TypeId) : Bool := t != 102 && t != 104 && t != 108
/-- Nothing has turned below base, nor in rows of other types. -/
structure BK (base : Nat) (w w' : World) : Prop where
  below : Below base w w'
  keeps : ∀ (i : Nat) (cs : Array Value) (t : TypeId) (fr : Nat × Nat), w.heap[i]? = some (.cells cs t fr) → KT t = true → w'.heap[i]? = some (.cells cs t fr)
section
variable {base : Nat} {w w1 w2 : World}
theorem BK.refl (base : Nat) (w : World) : BK base w w := ⟨Below.refl _ _, fun _ _ _ _ h _ => h⟩
theorem BK.trans (h : BK base w w1) (k : BK base w1 w2) : BK base w w2 := ⟨h.below.trans k.below, fun i cs t fr h1 h2 => k.keeps i cs t fr (h.keeps i cs t fr h1 h2) h2⟩
theorem BK.step (h : BK base w w1) (k : Below w1.heap.size w1 w2) (hz : base ≤ w1.heap.size) : BK base w w2 :=
  ⟨h.below.trans (k.mono hz), fun i cs t fr h1 h2 => by
    have h3 := h.keeps i cs t fr h1 h2
    rw [k.block i (Array.getElem?_eq_some_iff.1 h3).1]
    exact h3⟩
theorem BK.drew (h : BK base w w1) : BK base w w1.drew := ⟨h.below.drew, h.keeps⟩
theorem BK.setCell (h : BK base w w1) {p : Addr} (hp : base ≤ p.block) {cs : Array Value} {T : TypeId} {fr : Nat × Nat} (hr : w1.heap[p.block]? = some (.cells cs T fr)) (hT : KT T = false) (v : Value) : BK base w (w1.setCell p v) :=
  ⟨h.below.setCell hp v, fun i cs' t fr' h1 h2 => by
    have h3 := h.keeps i cs' t fr' h1 h2
    by_cases e : i = p.block
    · subst e
      rw [hr] at h3
      injection h3 with h3
      injection h3 with _ h3
      rw [h3, h2] at hT
      cases hT
    · rw [heap_setCell_other _ _ _ _ e]
      exact h3⟩
end

/-- What an append to the unions leaves. -/
theorem uni_world {base eb g : Nat} {A : Option Addr} {c : Nat} {w w1 : World} {E : List El} {U : List (Nat × Nat)} {o : Obj}
    (hrow : w.heap[g]? = some (.cells #[.slice (some ⟨eb, 0, none⟩) E.length E.length, .slice A U.length c] 102 (0, 0)))
    (hE : ERow 104 w eb E) (hown : w.ownsRow base 108 2 (.slice A U.length c) U.length (flatU U)) (hsz : base ≤ w.heap.size)
    (hgrow : (w.alloc o).grownBy w1 (Value.slice A U.length c).ownBlock) :
    w1.heap[g]? = some (.cells #[.slice (some ⟨eb, 0, none⟩) E.length E.length, .slice A U.length c] 102 (0, 0)) ∧ ERow 104 w1 eb E ∧ BK base w w1 := by
  have hg := (Array.getElem?_eq_some_iff.1 hrow).1
  have hb := hE.lt
  have k : ∀ i, i < w.heap.size → some i ≠ (Value.slice A U.length c).ownBlock → w1.heap[i]? = w.heap[i]? := fun i hi hn => (hgrow.block i (by simp; omega) hn).trans (heap_alloc_old _ _ hi)
  obtain ⟨cs, e1, e2⟩ := hE
  refine ⟨(k g hg (own_apartS hown hrow (by decide))).trans hrow, ⟨cs, (k eb hb (own_apartS hown e1 (by decide))).trans e1, e2⟩, ?_⟩
  refine ⟨((Below.refl base w).alloc hsz o).grown hgrow (by simp; omega) (fun q hq => (hown.lt q hq).1), fun i cs' t fr h1 h2 => ?_⟩
  refine (k i (Array.getElem?_eq_some_iff.1 h1).1 ?_).trans h1
  intro e
  rcases hown.2 with ⟨h3, _⟩ | ⟨g', cap, cur, h3, _, h4, _⟩
  · rw [h3] at e; cases e
  · rw [h3] at e
    injection e with e
    subst e
    rw [h1] at h4
    injection h4 with h4
    injection h4 with _ h4
    rw [h4] at h2
    revert h2
    decide

theorem own_setCell_other {w : World} {base : Nat} {e : TypeId} {z n : Nat} {v : Value} {xs : List Value} (h : w.ownsRow base e z v n xs) {a : Addr} (ha : some a.block ≠ v.ownBlock) (u : Value) : (w.setCell a u).ownsRow base e z v n xs := by
  refine ⟨h.1, ?_⟩
  rcases h.2 with h1 | ⟨g, cap, cur, rfl, hb, hh, hr⟩
  · exact .inl h1
  · refine .inr ⟨g, cap, cur, rfl, hb, (heap_setCell_other w a g u ?_).trans hh, hr⟩
    intro he
    exact ha (by show some a.block = some g; rw [he])
/-- The unions have grown; the elements are as they were. -/
def UniMid (base g eb : Nat) (n : Nat) (E : List El) (U : List (Nat × Nat)) (w wx : World) : Prop := ∃ A c, wx.heap[g]? = some (.cells #[.slice (some ⟨eb, 0, none⟩) n n, .slice A U.length c] 102 (0, 0)) ∧ ERow 104 wx eb E ∧
  wx.ownsRow base 108 2 (.slice A U.length c) U.length (flatU U) ∧ BK base w wx
theorem UniMid.mk {base g eb n : Nat} {E : List El} {U : List (Nat × Nat)} {w w1 : World} {v : Value} {gg cap : Nat} (hbg : base ≤ g) (hge : g ≠ eb) (hr : w1.heap[g]? = some (.cells #[.slice (some ⟨eb, 0, none⟩) n n, v] 102 (0, 0))) (he : ERow 104 w1 eb E) (hb : BK base w w1)
    (ho : w1.ownsRow base 108 2 (.slice (some ⟨gg, 0, none⟩) U.length cap) U.length (flatU U)) : UniMid base g eb n E U w (w1.setCell ⟨g, 1, none⟩ (.slice (some ⟨gg, 0, none⟩) U.length cap)) :=
  ⟨_, _, heap_setCell_same w1 g 1 _ _ _ hr, he.keep (heap_setCell_other _ _ _ _ (by show eb ≠ g; omega)), own_setCell_other ho (own_apartS ho hr (by decide)) _, hb.setCell (p := ⟨g, 1, none⟩) hbg hr (by decide) _⟩
/-- A store to an element. -/
theorem UniMid.el {base g eb n : Nat} {E E' : List El} {U : List (Nat × Nat)} {w wx : World} (h : UniMid base g eb n E U w wx) (hbe : base ≤ eb) (hge : g ≠ eb) {j : Nat} {v : Value} (he : (flatE E).set j v = flatE E') : UniMid base g eb n E' U w (wx.setCell ⟨eb, j, none⟩ v) := by
  obtain ⟨A, c, h1, h2, h3, h4⟩ := h
  obtain ⟨cs, k1, k2⟩ := h2
  exact ⟨A, c, (heap_setCell_other _ _ _ _ (by show g ≠ eb; exact hge)).trans h1, ERow.set ⟨cs, k1, k2⟩ he, own_setCell_other h3 (own_apartS h3 k1 (by decide)) _, h4.setCell (p := ⟨eb, j, none⟩) hbe k1 (by decide) _⟩
theorem UniMid.drew {base g eb n : Nat} {E : List El} {U : List (Nat × Nat)} {w wx : World} (h : UniMid base g eb n E U w wx) : UniMid base g eb n E U w wx.drew := by
  obtain ⟨A, c, h1, h2, h3, h4⟩ := h
  exact ⟨A, c, h1, h2, h3, h4.drew⟩
theorem UniMid.row {base g eb n : Nat} {E : List El} {U : List (Nat × Nat)} {w wx : World} (h : UniMid base g eb n E U w wx) : ERow 104 wx eb E := by
  obtain ⟨A, c, h1, h2, h3, h4⟩ := h
  exact h2
theorem UniMid.done {base g eb n : Nat} {E : List El} {U : List (Nat × Nat)} {w wx : World} (h : UniMid base g eb n E U w wx) (hbg : base ≤ g) (hbe : base ≤ eb) (hn : n = E.length) : IsSets base wx g E U ∧ BK base w wx := by
  obtain ⟨A, c, h1, h2, h3, h4⟩ := h
  subst hn
  exact ⟨⟨eb, A, c, hbg, hbe, h1, h2, h3⟩, h4⟩
theorem flatU_snoc (U : List (Nat × Nat)) (x : Nat × Nat) : flatU U ++ unV x = flatU (U ++ [x]) := by unfold flatU; rw [List.flatMap_append]; simp

set_option maxHeartbeats 3200000 in
set_option maxRecDepth 8000 in
theorem link_any {base : Nat} (g r1 r2 u l : Nat) (a b : Nat) (E : List El) (U : List (Nat × Nat)) (w : World) (h : IsSets base w g E U) (hE : E.length ≤ 10000) (hU : U.length ≤ 10000) (ok : Ok E) (ha : a < E.length) (hb : b < E.length)
    (e1 : r1 = root E a) (e2 : r2 = root E b) (h1l : r1 < E.length) (h2l : r2 < E.length) (h1r : E[r1].1 = r1) (h2r : E[r2].1 = r2) (hne : r1 ≠ r2) (hc : (sizeOf' E r1 < sizeOf' E r2 ∧ u = r2 ∧ l = r1) ∨ (¬ sizeOf' E r1 < sizeOf' E r2 ∧ u = r1 ∧ l = r2)) :
    Calls Try.prog 19 #[.pointer (some ⟨g, 0, none⟩), .int .i64 a, .int .i64 b] w fun e w' => e = .returned (.tuple #[.bool true, .int .i64 0]) ∧ IsSets base w' g (uni E u l) (U ++ [(l, leastOf E u)]) ∧ BK base w w' := by
  have HCa := Lib.hid (checkS_any a g E U w h hE)
  have HCb := Lib.hid (checkS_any b g E U w h hE)
  rw [show inR (a : Int) E.length = true from decide_eq_true ⟨by omega, by omega⟩, if_pos rfl] at HCa
  rw [show inR (b : Int) E.length = true from decide_eq_true ⟨by omega, by omega⟩, if_pos rfl] at HCb
  have HRa := Lib.hid (rootS_any a g E U w h ok ha)
  have HRb := Lib.hid (rootS_any b g E U w h ok hb)
  rw [← e1] at HRa
  rw [← e2] at HRb
  clear e1 e2
  have hul : u ≠ l := by omega
  have hu : u < E.length := by omega
  have hl : l < E.length := by omega
  obtain ⟨eb, A, c, hbg, hbe, hge, hrow, c0, c1, herow, hown⟩ := h.parts
  have Hrow := Lib.hid hrow
  have HEr := Lib.hid herow
  have Hown := Lib.hid hown
  have hgs := (Array.getElem?_eq_some_iff.1 hrow).1
  have hes := herow.lt
  have x1 := herow.cell h1l 1 (by omega)
  have x2 := herow.cell h2l 1 (by omega)
  have y2 := herow.cell hu 2 (by omega)
  simp only [elV, List.getElem?_cons_succ, List.getElem?_cons_zero] at x1 x2 y2
  have Hs1 := Lib.hid (show sizeOf' E r1 = E[r1].2.1 by simp [sizeOf', h1l])
  have Hs2 := Lib.hid (show sizeOf' E r2 = E[r2].2.1 by simp [sizeOf', h2l])
  have Hlu := Lib.hid (show leastOf E u = E[u].2.2 by simp [leastOf, hu])
  rw [← Hs1.out] at x1
  rw [← Hs2.out] at x2
  rw [← Hlu.out] at y2
  obtain ⟨i0, hi0, iz0, iz1, iz2⟩ := info_parts infoUn
  obtain ⟨lu, hlu⟩ : ∃ lu, lu = leastOf E u := ⟨_, rfl⟩
  rw [← hlu] at y2
  have Hluv := Lib.hid hlu
  clear hlu hrow herow hown h
  have t1 : ((r1 : Int) == (r2 : Int)) = false := by rw [beq_eq_false_iff_ne]; omega
  obtain ⟨s1, hs1⟩ : ∃ s, s = sizeOf' E r1 := ⟨_, rfl⟩
  obtain ⟨s2, hs2⟩ : ∃ s, s = sizeOf' E r2 := ⟨_, rfl⟩
  rw [← hs1] at x1 hc
  rw [← hs2] at x2 hc
  clear hs1 hs2
  rcases hc with ⟨hc, rfl, rfl⟩ | ⟨hc, rfl, rfl⟩
  case' inl => have t2 : decide (s1 < s2) = true := decide_eq_true hc
  case' inr => have t2 : decide (s1 < s2) = false := decide_eq_false hc
  all_goals
    go_enter Try.func19, Try.ntmps19
    go_wp2_with fail
    refine (HCa.out).mono ?_
    rintro e w' ⟨rfl, hw⟩; obtain rfl := hw.symm; clear hw
    go_wp2_with fail
    refine (HCb.out).mono ?_
    rintro e w' ⟨rfl, hw⟩; obtain rfl := hw.symm; clear hw
    go_wp2_with fail
    refine (HRa.out).mono ?_
    rintro e w' ⟨rfl, hw⟩; obtain rfl := hw.symm; clear hw
    go_wp2_with fail
    refine (HRb.out).mono ?_
    rintro e w' ⟨rfl, hw⟩; obtain rfl := hw.symm; clear hw
    go_wp2
    go_quiet (fail)
    go_wp2
    go_quiet (fail)
    go_wp2
    generalize hwq : World.drewN (World.drewN w _) _ = wq
    have Hrq : Hid (wq.heap[g]? = some (.cells #[.slice (some ⟨eb, 0, none⟩) E.length E.length, .slice A U.length c] 102 (0, 0))) := by subst hwq; exact Hrow.out
    have HEq : Hid (ERow 104 wq eb E) := by subst hwq; exact HEr.out
    have Hoq : Hid (wq.ownsRow base 108 2 (.slice A U.length c) U.length (flatU U)) := by subst hwq; exact Hown.out
    have hzq : base ≤ wq.heap.size := by subst hwq; show base ≤ w.heap.size; omega
    have Hbq : Hid (BK base w wq) := by subst hwq; exact ⟨below_drewS (below_drewS (Below.refl _ _) _) _, fun _ _ _ _ h _ => h⟩
    have hgq : g < wq.heap.size := by subst hwq; exact hgs
    have heq : eb < wq.heap.size := by subst hwq; exact hes
    have c1q : wq.cell? ⟨g, 1, none⟩ = some (.slice A U.length c) := by subst hwq; exact c1
    have y2q : wq.cell? ⟨eb, u * 3 + 2, none⟩ = some (.int .i64 (lu : Nat)) := by subst hwq; exact y2
    clear hwq c0 c1 x1 x2 y2 t2
    have h63 : U.length + 1 ≤ maxLen := by simp only [maxLen]; omega
    have hby : (U.length + 1) * 16 ≤ 140737488355328 := by omega
    have hun : ∀ q ∈ [Value.int .i64 (l : Nat), Value.int .i64 (lu : Nat)], q.oneCell' = true := by simp [Value.oneCell']
    have Hun := Lib.hid hun
    clear hun
    have HK : Hid (∀ w1, ((wq.alloc (.cells #[.int .i64 (l : Nat), .int .i64 (lu : Nat)] 108)).drew).grownBy w1 (Value.slice A U.length c).ownBlock →
        Hid (w1.heap[g]? = some (.cells #[.slice (some ⟨eb, 0, none⟩) E.length E.length, .slice A U.length c] 102 (0, 0))) ∧ Hid (ERow 104 w1 eb E) ∧ Hid (BK base w w1) ∧ w1.cell? ⟨g, 1, none⟩ = some (.slice A U.length c) ∧ w1.cell? ⟨eb, u * 3 + 2, none⟩ = some (.int .i64 (lu : Nat)) ∧ w1.frozen? ⟨g, 1, none⟩ = false) := fun w1 hg => by
      obtain ⟨p1, p2, p3⟩ := uni_world Hrq.out HEq.out Hoq.out hzq (o := .cells #[.int .i64 (l : Nat), .int .i64 (lu : Nat)] 108) (w1 := w1) ⟨hg.os, hg.tape, hg.output, hg.size, hg.block⟩
      have p4 := p2.cell hu 2 (by omega)
      simp only [elV, List.getElem?_cons_succ, List.getElem?_cons_zero] at p4
      exact ⟨p1, p2, Hbq.out.trans p3, by rw [cell_of_row _ _ _ _ _ _ p1]; rfl, by rw [p4, ← Hlu.out, ← Hluv.out], frozen_of_row _ _ _ _ _ p1⟩
    have HM : Hid (∀ w1 gg cap, Hid (w1.heap[g]? = some (.cells #[.slice (some ⟨eb, 0, none⟩) E.length E.length, .slice A U.length c] 102 (0, 0))) → Hid (ERow 104 w1 eb E) → Hid (BK base w w1) →
        w1.ownsRow base 108 2 (.slice (some ⟨gg, 0, none⟩) (U.length + 1) cap) (U.length + 1) (flatU U ++ [.int .i64 (l : Nat), .int .i64 (lu : Nat)]) → UniMid base g eb E.length E (U ++ [(l, lu)]) w (w1.setCell ⟨g, 1, none⟩ (.slice (some ⟨gg, 0, none⟩) (U.length + 1) cap))) := fun w1 gg cap k1 k2 k3 k4 => by
      have hl1 : (U ++ [(l, lu)]).length = U.length + 1 := by simp
      have := UniMid.mk (U := U ++ [(l, lu)]) (gg := gg) (cap := cap) hbg hge k1 k2 k3 (by rw [hl1, ← flatU_snoc]; exact k4)
      rwa [hl1] at this
    go_cut [10] (fun s wx => s = .int .i64 (u : Nat) ∧ UniMid base g eb E.length E (U ++ [(l, lu)]) w wx)
    case first =>
      go_region_law
        ((refine step_append_lies _ (by rfl) _ _ _ (by rfl) base 108 i0 _ 2 16 Try.underlying100 hi0 iz0 iz1 iz2 rfl (by omega) (.slice A U.length c) U.length (flatU U) (by rfl) ((Hoq.out.alloc _).drew) ⟨wq.heap.size, 0, none⟩ 1 1 [.int .i64 (l : Nat), .int .i64 (lu : Nat)] (by rfl) (by rfl) (World.news_of_block (cs := #[.int .i64 (l : Nat), .int .i64 (lu : Nat)]) (t := 108) (fr := (0, 0)) (heap_alloc_new wq _)) Hun.out (by omega) h63 hby (by simp; omega) (wq.heap.size + 1) (by simp) ?_; intro gg cap w1 hown1 hgrow hat hlt; obtain ⟨kr, ke, kb, k1, k2, kf⟩ := HK.out _ hgrow; have Ho := Lib.hid hown1; clear hgrow hown1))
      all_goals (go_wp2_with fail; go_meet; exact ⟨rfl, HM.out _ _ _ kr ke kb Ho.out⟩)
    case rest =>
      obtain ⟨rfl, hmid⟩ := hcut
      have Hmid := Lib.hid hmid
      clear hmid c1q y2q HK HM Hrq HEq Hoq hzq Hbq hgq heq h63 hby Hun Hrow HEr Hown hgs hes hi0 iz0 iz1 iz2 HCa HCb HRa HRb t1
      obtain ⟨⟨pu, su, lu'⟩, hEu⟩ : ∃ e, e = E[u] := ⟨_, rfl⟩
      obtain ⟨⟨pl, sl, ll⟩, hEl⟩ : ∃ e, e = E[l] := ⟨_, rfl⟩
      have hru : pu = u := by have := congrArg (·.1) hEu; simp only at this; rw [this]; first | exact h1r | exact h2r
      have htu := ok.top u hu
      have htl := ok.top l hl
      rw [← hEu] at htu
      rw [← hEl] at htl
      simp only at htu htl
      have HEu := Lib.hid hEu
      have HEl := Lib.hid hEl
      have OK := Lib.hid ok
      have Hru := Lib.hid hru
      clear hEu hEl ok hru h1r h2r
      have M1 := Hmid.out.row
      have d0 := M1.cell hl 0 (by omega)
      have f0 := M1.frozen (l * 3)
      rw [← HEl.out] at d0
      simp only [elV, Nat.add_zero, List.getElem?_cons_zero] at d0
      clear M1
      go_wp2_with fail
      generalize hw2 : World.setCell _ _ _ = w2
      have M2 : Hid (UniMid base g eb E.length (E.set l (u, sl, ll)) (U ++ [(l, lu)]) w w2) := by
        subst hw2
        exact Hmid.out.el hbe hge ((flatE_set0 u E l hl).trans (by rw [← HEl.out]))
      have hu1 : u < (E.set l (u, sl, ll)).length := by simpa using hu
      have hl1 : l < (E.set l (u, sl, ll)).length := by simpa using hl
      have g1 := M2.out.row.cell hu1 1 (by omega)
      have g2 := M2.out.row.cell hl1 1 (by omega)
      rw [List.getElem_set_ne (by omega), ← HEu.out] at g1
      rw [List.getElem_set_self] at g2
      simp only [elV, List.getElem?_cons_zero, List.getElem?_cons_succ] at g1 g2
      have hwr : IntKind.i64.wrap ((su : Int) + (sl : Int)) = ((su + sl : Nat) : Int) := (IntWalk.i64_in _ (by omega)).trans (by omega)
      clear d0 f0 hw2
      go_still_tail 11, (by kernel_rfl)
      change wpList _ _ _ _ _ w2.drew
      have hg1 : w2.drew.cell? ⟨eb, u * 3 + 1, none⟩ = some (.int .i64 (su : Nat)) := g1
      have hf1 : w2.drew.frozen? ⟨eb, u * 3 + 1, none⟩ = false := M2.out.row.frozen _
      have M3 := Lib.hid M2.out.drew
      generalize w2.drew = w3 at hg1 hf1 M3 ⊢
      clear g1 g2 hwr M2
      go_wp2_with fail
      generalize hw4 : World.setCell _ _ _ = w4
      have M4 : Hid (UniMid base g eb E.length ((E.set l (u, sl, ll)).set u (pu, su + sl, lu')) (U ++ [(l, lu)]) w w4) := by
        subst hw4
        exact M3.out.el hbe hge ((flatE_set1 (su + sl) _ u hu1).trans (by rw [List.getElem_set_ne (by omega), ← HEu.out]))
      have hu2 : u < ((E.set l (u, sl, ll)).set u (pu, su + sl, lu')).length := by simpa using hu
      have hl2 : l < ((E.set l (u, sl, ll)).set u (pu, su + sl, lu')).length := by simpa using hl
      have g3 := M4.out.row.cell hu2 2 (by omega)
      have g4 := M4.out.row.cell hl2 2 (by omega)
      rw [List.getElem_set_self] at g3
      rw [List.getElem_set_ne (by omega), List.getElem_set_self] at g4
      simp only [elV, List.getElem?_cons_zero, List.getElem?_cons_succ] at g3 g4
      clear hg1 hf1 hw4 M3
      have hmc : (ll < lu' ∧ Hid (min lu' ll = ll)) ∨ (¬ ll < lu' ∧ Hid (min lu' ll = lu')) := by
        by_cases hml : ll < lu'
        · exact .inl ⟨hml, by show min lu' ll = ll; omega⟩
        · exact .inr ⟨hml, by show min lu' ll = lu'; omega⟩
      have HFin : Hid (∀ w6, UniMid base g eb E.length (uni E u l) (U ++ [(l, lu)]) w w6 → IsSets base w6 g (uni E u l) (U ++ [(l, leastOf E u)]) ∧ BK base w w6) := fun w6 h6 => by
        rw [← Hluv.out]
        exact h6.done hbg hbe (uni_len E u l).symm
      have HU : Hid (uni E u l = (E.set l (u, sl, ll)).set u (pu, su + sl, min lu' ll)) := by
        show _ = _
        rw [uni_eq hu hl, ← HEu.out, ← HEl.out]
      rcases hmc with ⟨hml, hmn⟩ | ⟨hml, hmn⟩
      all_goals
        rw [hmn.out] at HU
        go_still_tail 12, (by kernel_rfl)
        change wpList _ _ _ _ _ w4.drew
        have hg1 : w4.drew.cell? ⟨eb, u * 3 + 2, none⟩ = some (.int .i64 (lu' : Nat)) := g3
        have hf1 : w4.drew.frozen? ⟨eb, u * 3 + 2, none⟩ = false := M4.out.row.frozen _
        have M5 := Lib.hid M4.out.drew
        generalize w4.drew = w5 at hg1 hf1 M5 ⊢
        have M6 := Lib.hid (fun v E' he => M5.out.el (v := v) (E' := E') (j := u * 3 + 2) hbe hge he)
        clear g3 g4 M4 hml
        go_wp2
        go_ret2
        refine ⟨rfl, HFin.out _ (M6.out _ _ ?_)⟩
        rw [HU.out]
        exact (flatE_set2 _ _ u hu2).trans (by simp)
end Go.Proofs.Ytdffgkhlkbaecaa.Tok
