/- Contracts of union-find: NewSets, check, root, Find, Count, Mark. -/
import Derived.Test.YtdffgkhlkbaecaaProg
import Derived.Test.YtdffgkhlkbaecaaSetsMath
import Derived.ProofKit
import Derived.Outline
import Derived.Deep.Light
import Derived.Deep.QuietTactic
import Derived.BigQuiet
import Derived.WalkLawsBesides
import Derived.WalkSpells
import Derived.Laws.MakeOwn
import Derived.IntWalk
namespace Go.Proofs.Ytdffgkhlkbaecaa.Tok
open Go.RowKit Go.Proofs.Ytdffgkhlkbaecaa

def unV (x : Nat × Nat) : List Value := [.int .i64 (x.1 : Nat), .int .i64 (x.2 : Nat)]
def flatU (U : List (Nat × Nat)) : List Value := U.flatMap unV
/-- Sets in memory: an object, its elements, its unions, all in blocks from base on. -/
def IsSets (base : Nat) (w : World) (g : Nat) (E : List El) (U : List (Nat × Nat)) : Prop :=
  ∃ (eb : Nat) (A : Option Addr) (c : Nat), base ≤ g ∧ base ≤ eb ∧
    w.heap[g]? = some (.cells #[.slice (some ⟨eb, 0, none⟩) E.length E.length, .slice A U.length c] 102 (0, 0)) ∧
    ERow 104 w eb E ∧ w.ownsRow base 108 2 (.slice A U.length c) U.length (flatU U)

theorem infoEl : (Try.prog.info? 104).map (fun i => (i.zero, i.size, i.bytes)) = some (some (.agg #[.int .i64 0, .int .i64 0, .int .i64 0]), 3, 24) := by kernel_rfl
theorem mk_els {P : Program} (t e : TypeId) (i : TypeInfo) (z : Value) (ht : P.underlying t = some (.slice e)) (hi : P.info? e = some i) (hz : i.zero = some z) (hs : i.size = 3) (hb : i.bytes = 24) (n : Nat) (hn : n ≤ 10000) (w : World) :
    (Instr.makeSlice t (.int .i64 (n : Int)) (.int .i64 (n : Int))).run P w = .ok (.slice (some ⟨w.heap.size, 0, none⟩) n n) (w.alloc (.cells (madeCells z.cells (n * 3)) e)) := by
  have hr := run_make (P := P) w t e i z ht hi hz .i64 .i64 n n (by omega) (by omega) (by rw [hb]; omega) (by omega)
  simp only [Int.toNat_natCast, hs] at hr
  exact hr
theorem made_els (n : Nat) : (madeCells #[.int .i64 0, .int .i64 0, .int .i64 0] (n * 3)).toList = flatE (List.replicate n (0, 0, 0)) := by
  have h1 : (madeCells #[.int .i64 0, .int .i64 0, .int .i64 0] (n * 3)).toList = List.replicate (n * 3) (.int .i64 0) := by
    apply List.ext_getElem?
    intro j
    by_cases hj : j < n * 3
    · have h3 : j % 3 = 0 ∨ j % 3 = 1 ∨ j % 3 = 2 := by omega
      rcases h3 with h | h | h <;> simp [madeCells, hj, h]
    · simp [madeCells, hj]
  rw [h1]
  induction n with
  | zero => rfl
  | succ n ih =>
    have ih' := ih (by
      apply List.ext_getElem?
      intro j
      by_cases hj : j < n * 3
      · have h3 : j % 3 = 0 ∨ j % 3 = 1 ∨ j % 3 = 2 := by omega
        rcases h3 with h | h | h <;> simp [madeCells, hj, h]
      · simp [madeCells, hj])
    rw [List.replicate_succ, show (n + 1) * 3 = 3 + n * 3 by omega, ← List.replicate_append_replicate, ih']
    rfl
def mix (n k : Nat) : List El := ones k ++ List.replicate (n - k) (0, 0, 0)
theorem mix_len {n k : Nat} (h : k ≤ n) : (mix n k).length = n := by simp [mix, ones_len]; omega
theorem mix_set {n k : Nat} (h : k < n) : (mix n k).set k (k, 1, k) = mix n (k + 1) := by
  unfold mix
  rw [List.set_append_right _ _ (by rw [ones_len]; omega), ones_len, Nat.sub_self, show n - k = (n - (k + 1)) + 1 by omega, List.replicate_succ, List.set_cons_zero]
  simp [ones]

set_option maxHeartbeats 1600000 in
set_option maxRecDepth 8000 in
theorem newSets_any (n : Int) (w : World) (hn1 : -9223372036854775808 ≤ n) (hn2 : n ≤ 9223372036854775807) :
    Calls Try.prog 18 #[.int .i64 n] w fun e w' => ((¬ (0 ≤ n ∧ n ≤ 10000) ∧ e = .returned (.tuple #[.pointer none, .int .i64 3]) ∧ w' = w) ∨
      (0 ≤ n ∧ n ≤ 10000 ∧ ∃ g, e = .returned (.tuple #[.pointer (some ⟨g, 0, none⟩), .int .i64 0]) ∧ IsSets w.heap.size w' g (ones n.toNat) [] ∧ Below w.heap.size w w')) := by
  by_cases h : 0 ≤ n ∧ n ≤ 10000
  · obtain ⟨h0, h1⟩ := h
    obtain ⟨m, rfl⟩ : ∃ m : Nat, n = (m : Int) := ⟨n.toNat, by omega⟩
    have hm : m ≤ 10000 := by omega
    obtain ⟨i0, hi0, iz0, iz1, iz2⟩ := info_parts infoEl
    have hmk := fun W => mk_els (P := Try.prog) 99 104 i0 _ Try.underlying99 hi0 iz0 iz1 iz2 m hm W
    clear iz1 iz2 hi0
    go_enter Try.func18, Try.ntmps18
    go_wp2
    clear hmk
    generalize hwq : World.alloc (World.alloc _ _) _ = wq
    have hbq : Below w.heap.size w wq := by subst hwq; exact ((Below.refl _ _).alloc (Nat.le_refl _) _).alloc (by simp) _
    have hrow : wq.heap[w.heap.size + 1]? = some (.cells #[.slice (some ⟨w.heap.size, 0, none⟩) m m, .slice none 0 0] 102 (0, 0)) := by
      subst hwq
      have := heap_alloc_new (w.alloc (.cells (madeCells #[.int .i64 0, .int .i64 0, .int .i64 0] (m * 3)) 104)) (.cells #[.slice (some ⟨w.heap.size, 0, none⟩) m m, .slice none 0 0] 102)
      rwa [show (w.alloc (.cells (madeCells #[.int .i64 0, .int .i64 0, .int .i64 0] (m * 3)) 104)).heap.size = w.heap.size + 1 by simp] at this
    have hE : ERow 104 wq w.heap.size (mix m 0) := by
      subst hwq
      refine ⟨_, (heap_alloc_old _ _ (by simp)).trans (heap_alloc_new w _), ?_⟩
      rw [made_els]
      simp [mix, ones]
    have Hbq := Lib.hid hbq
    have Hrow := Lib.hid hrow
    have HE := Lib.hid hE
    clear hwq hbq hrow hE
    go_loopw [17] (fun iv wr => ∃ k : Nat, k ≤ m ∧ iv = .int .i64 k ∧ Hid (wr.heap[w.heap.size + 1]? = some (.cells #[.slice (some ⟨w.heap.size, 0, none⟩) m m, .slice none 0 0] 102 (0, 0))) ∧ Hid (ERow 104 wr w.heap.size (mix m k)) ∧ Below w.heap.size w wr) (fun iv _ => m - (intOf iv).toNat)
    case atStart => exact ⟨0, Nat.zero_le _, rfl, Hrow.out, HE.out, Hbq.out⟩
    case round =>
      obtain ⟨k, hk, rfl, hrow, hE, hb⟩ := hrel
      by_cases hlt : k < m
      · have c0 : wr.cell? ⟨w.heap.size + 1, 0, none⟩ = some (.slice (some ⟨w.heap.size, 0, none⟩) m m) := by rw [cell_of_row _ _ _ _ _ _ hrow.out]; rfl
        have hkl : k < (mix m k).length := by rw [mix_len hk]; exact hlt
        have d0 := hE.out.cell hkl 0 (by omega)
        have d1 := hE.out.cell hkl 1 (by omega)
        have d2 := hE.out.cell hkl 2 (by omega)
        have f0 := hE.out.frozen (k * 3)
        have f1 := hE.out.frozen (k * 3 + 1)
        have f2 := hE.out.frozen (k * 3 + 2)
        generalize (mix m k)[k] = e at d0 d1 d2
        simp only [elV, Nat.add_zero] at d0 d1 d2
        go_wp2
        go_light
        refine ⟨⟨k + 1, by omega, by go_num, ?_, ?_, ?_⟩, by simp [intOf]; omega⟩
        · show _ = _
          rw [heap_setCell_other _ _ _ _ (by simp), heap_setCell_other _ _ _ _ (by simp), heap_setCell_other _ _ _ _ (by simp)]
          exact hrow.out
        · show ERow _ _ _ _
          rw [← mix_set hlt]
          exact hE.out.set3 hkl k 1 k
        · exact ((hb.setCell (by simp) _).setCell (by simp) _).setCell (by simp) _
      · obtain rfl : k = m := by omega
        go_wp2
        go_ret2
        have hE1 := hE.out
        rw [show mix k k = ones k by simp [mix]] at hE1
        have hr1 := hrow.out
        refine .inr ⟨by omega, by omega, w.heap.size + 1, rfl, ?_, hb⟩
        rw [Int.toNat_natCast]
        exact ⟨w.heap.size, none, 0, by omega, Nat.le_refl _, by rw [ones_len]; exact hr1, hE1, World.ownsRow_nil _ _ _ _⟩
  · have h2 : n < 0 ∨ 10000 < n := by omega
    rcases h2 with h2 | h2
    all_goals
      go_enter Try.func18, Try.ntmps18
      go_wp2
      go_ret2
      exact .inl ⟨by omega, rfl, rfl⟩

theorem IsSets.parts {base : Nat} {w : World} {g : Nat} {E : List El} {U : List (Nat × Nat)} (h : IsSets base w g E U) : ∃ (eb : Nat) (A : Option Addr) (c : Nat), base ≤ g ∧ base ≤ eb ∧ g ≠ eb ∧
    w.heap[g]? = some (.cells #[.slice (some ⟨eb, 0, none⟩) E.length E.length, .slice A U.length c] 102 (0, 0)) ∧ w.cell? ⟨g, 0, none⟩ = some (.slice (some ⟨eb, 0, none⟩) E.length E.length) ∧ w.cell? ⟨g, 1, none⟩ = some (.slice A U.length c) ∧
    ERow 104 w eb E ∧ w.ownsRow base 108 2 (.slice A U.length c) U.length (flatU U) := by
  obtain ⟨eb, A, c, h1, h2, h3, h4, h5⟩ := h
  refine ⟨eb, A, c, h1, h2, ?_, h3, by rw [cell_of_row _ _ _ _ _ _ h3]; rfl, by rw [cell_of_row _ _ _ _ _ _ h3]; rfl, h4, h5⟩
  rintro rfl
  obtain ⟨cs, h6, _⟩ := h4
  rw [h3] at h6
  injection h6 with h6
  injection h6 with _ h6
  exact absurd h6 (by decide)
theorem IsSets.keep {base : Nat} {w w' : World} {g : Nat} {E : List El} {U : List (Nat × Nat)} (h : IsSets base w g E U) (hk : ∀ i, base ≤ i → i < w.heap.size → w'.heap[i]? = w.heap[i]?) : IsSets base w' g E U := by
  obtain ⟨eb, A, c, h1, h2, h3, h4, h5⟩ := h
  have hg := (Array.getElem?_eq_some_iff.1 h3).1
  refine ⟨eb, A, c, h1, h2, (hk g h1 hg).trans h3, h4.keep (hk eb h2 h4.lt), h5.1, ?_⟩
  rcases h5.2 with h6 | ⟨gg, cap, cur, hv, hb, hh, hr⟩
  · exact .inl h6
  · exact .inr ⟨gg, cap, cur, hv, hb, (hk gg hb (Array.getElem?_eq_some_iff.1 hh).1).trans hh, hr⟩
theorem IsSets.below {base : Nat} {w w' : World} {g : Nat} {E : List El} {U : List (Nat × Nat)} (h : IsSets base w g E U) (hb : Below w.heap.size w w') : IsSets base w' g E U := h.keep fun i _ hi => hb.block i hi
theorem IsSets.lower {base base' : Nat} {w : World} {g : Nat} {E : List El} {U : List (Nat × Nat)} (h : IsSets base w g E U) (hb : base' ≤ base) : IsSets base' w g E U := by
  obtain ⟨eb, A, c, h1, h2, h3, h4, h5⟩ := h
  exact ⟨eb, A, c, by omega, by omega, h3, h4, h5.1, h5.2.imp id fun ⟨g, cap, cur, a, b, c⟩ => ⟨g, cap, cur, a, by omega, c⟩⟩

def inR (a : Int) (n : Nat) : Bool := decide (0 ≤ a ∧ a < n)
set_option maxHeartbeats 800000 in
theorem checkS_any {base : Nat} (a : Int) (g : Nat) (E : List El) (U : List (Nat × Nat)) (w : World) (h : IsSets base w g E U) (hE : E.length ≤ 10000) :
    Calls Try.prog 48 #[.pointer (some ⟨g, 0, none⟩), .int .i64 a] w fun e w' => e = .returned (.int .i64 (if inR a E.length then 0 else 3)) ∧ w' = w := by
  obtain ⟨eb, A, c, -, -, -, -, c0, -, -, -⟩ := h.parts
  clear h
  generalize E.length = n at c0 hE ⊢
  by_cases h1 : 0 ≤ a ∧ a < n
  · have hr : inR a n = true := by unfold inR; exact decide_eq_true h1
    rw [hr]
    obtain ⟨h1, h2⟩ := h1
    clear hr
    go_enter Try.func48, Try.ntmps48
    go_wp2
    go_ret
    exact ⟨rfl, rfl⟩
  · have hr : inR a n = false := by unfold inR; exact decide_eq_false h1
    rw [hr]
    have h2 : a < 0 ∨ (n : Int) ≤ a := by omega
    clear hr h1
    rcases h2 with h2 | h2
    all_goals
      go_enter Try.func48, Try.ntmps48
      go_wp2
      go_ret
      exact ⟨rfl, rfl⟩
set_option maxHeartbeats 800000 in
theorem rootS_any {base : Nat} (a : Nat) (g : Nat) (E : List El) (U : List (Nat × Nat)) (w : World) (h : IsSets base w g E U) (ok : Ok E) (ha : a < E.length) :
    Calls Try.prog 49 #[.pointer (some ⟨g, 0, none⟩), .int .i64 a] w fun e w' => e = .returned (.int .i64 (root E a : Nat)) ∧ w' = w := by
  obtain ⟨eb, A, c, -, -, -, -, c0, -, hrow, -⟩ := h.parts
  have Hrow := Lib.hid hrow
  have OK := Lib.hid ok
  clear h hrow ok
  go_enter Try.func49, Try.ntmps49
  go_wp2
  go_loop [1] (fun iv => ∃ b : Nat, iv = .int .i64 b ∧ b < E.length ∧ Hid (root E a = root E b)) (fun iv => 10001 - (E.getD (intOf iv).toNat (0, 0, 0)).2.1)
  case atStart => exact ⟨a, rfl, ha, rfl⟩
  case round =>
    obtain ⟨b, rfl, hb, hr⟩ := hrel
    have d0 := Hrow.out.cell hb 0 (by omega)
    simp only [elV, Nat.add_zero] at d0
    have Hm := Lib.hid (show (E.getD b (0, 0, 0)).2.1 = E[b].2.1 by simp [hb])
    have hp := OK.out.par b hb
    by_cases h1 : E[b].1 = b
    · have HR := Lib.hid (hr.out.trans (root_self hb h1))
      have t1 : ((E[b].1 : Int) != (b : Int)) = false := by rw [bne_eq_false_iff_eq]; omega
      obtain ⟨q, hq⟩ : ∃ q, q = E[b].1 := ⟨_, rfl⟩
      simp only [List.getElem?_cons_zero] at d0
      rw [← hq] at d0 t1 hp
      clear h1 hq
      go_wp2
      go_ret
      exact ⟨by rw [HR.out]; rfl, by first | rfl | trivial⟩
    · have HR := Lib.hid (hr.out.trans (root_up OK.out hb h1))
      have hup := OK.out.up b hb h1 hp
      have htop := OK.out.top _ hp
      have t1 : ((E[b].1 : Int) != (b : Int)) = true := by rw [bne_iff_ne]; omega
      have Hm2 := Lib.hid (show (E.getD E[b].1 (0, 0, 0)).2.1 = E[E[b].1].2.1 by simp [hp])
      have hup' : (E.getD b (0, 0, 0)).2.1 < (E.getD E[b].1 (0, 0, 0)).2.1 := by rw [Hm.out, Hm2.out]; exact hup
      have htop' : (E.getD E[b].1 (0, 0, 0)).2.1 ≤ 10000 := by rw [Hm2.out]; exact htop
      have Hup := Lib.hid hup'
      have Htop := Lib.hid htop'
      obtain ⟨q, hq⟩ : ∃ q, q = E[b].1 := ⟨_, rfl⟩
      simp only [List.getElem?_cons_zero] at d0
      rw [← hq] at d0 t1 hp HR Hup Htop
      clear h1 hq hup htop hup' htop' Hm2 Hm
      go_wp2
      go_light
      exact ⟨⟨q, rfl, hp, HR.out⟩, by simp only [intOf, Int.toNat_natCast]; have := Hup.out; have := Htop.out; omega⟩

theorem below_drewS {B : Nat} {a w : World} (h : Below B a w) (n : Nat) : Below B a (w.drewN n) := ⟨h.os, h.tape, h.output, h.size, h.block⟩
def leastOf (E : List El) (r : Nat) : Nat := (E.getD r (0, 0, 0)).2.2
def sizeOf' (E : List El) (r : Nat) : Nat := (E.getD r (0, 0, 0)).2.1
def findV (E : List El) (a : Int) : Value := if inR a E.length then .tuple #[.int .i64 (leastOf E (root E a.toNat) : Nat), .int .i64 0] else .tuple #[.int .i64 0, .int .i64 3]
set_option maxHeartbeats 1600000 in
set_option maxRecDepth 8000 in
theorem findSets_any {base : Nat} (a : Int) (g : Nat) (E : List El) (U : List (Nat × Nat)) (w : World) (h : IsSets base w g E U) (hE : E.length ≤ 10000) (ok : Ok E) :
    Calls Try.prog 20 #[.pointer (some ⟨g, 0, none⟩), .int .i64 a] w fun e w' => e = .returned (findV E a) ∧ ∃ q, w' = w.drewN q := by
  have HC := Lib.hid (checkS_any a g E U w h hE)
  cases hr : inR a E.length
  · have HF := Lib.hid (show findV E a = .tuple #[.int .i64 0, .int .i64 3] by unfold findV; rw [hr]; rfl)
    rw [hr] at HC
    clear h ok hr hE
    go_enter Try.func20, Try.ntmps20
    go_wp2_with fail
    refine (HC.out).mono ?_
    rintro e w' ⟨rfl, hw⟩; obtain rfl := hw.symm; clear hw
    go_wp2
    go_ret2
    exact ⟨by rw [HF.out]; rfl, 0, rfl⟩
  · rw [hr] at HC
    have hr' := of_decide_eq_true hr
    obtain ⟨m, rfl⟩ : ∃ m : Nat, a = (m : Int) := ⟨a.toNat, by omega⟩
    have hm : m < E.length := by omega
    have HR : Hid (∀ q, Calls Try.prog 49 #[.pointer (some ⟨g, 0, none⟩), .int .i64 m] (w.drewN q) fun e w' => e = .returned (.int .i64 (root E m : Nat)) ∧ w' = w.drewN q) := fun q => rootS_any m g E U (w.drewN q) (h.below (below_drewS (Below.refl _ _) q)) ok hm
    obtain ⟨hrl, _⟩ := root_ok ok hm
    have HF := Lib.hid (show findV E (m : Int) = .tuple #[.int .i64 (E[root E m].2.2 : Nat), .int .i64 0] by
      unfold findV
      rw [hr, if_pos rfl, Int.toNat_natCast]
      unfold leastOf
      simp [hrl])
    obtain ⟨eb, A, c, -, -, -, -, c0, -, hrow, -⟩ := h.parts
    have d2 := hrow.cell hrl 2 (by omega)
    simp only [elV, List.getElem?_cons_succ, List.getElem?_cons_zero] at d2
    obtain ⟨x, hx⟩ : ∃ x, x = E[root E m].2.2 := ⟨_, rfl⟩
    rw [← hx] at d2 HF
    generalize root E m = r at HR hrl d2
    clear h ok hr hr' hrow hx
    go_enter Try.func20, Try.ntmps20
    go_wp2_with fail
    refine (HC.out).mono ?_
    rintro e w' ⟨rfl, hw⟩; obtain rfl := hw.symm; clear hw
    go_wp2
    go_quiet ((go_at_call 49; exact Calls.quiet_of_same (HR.out _)))
    go_wp2
    go_ret2
    exact ⟨by rw [HF.out]; rfl, _, rfl⟩
set_option maxHeartbeats 1600000 in
theorem countSets_any {base : Nat} (g : Nat) (E : List El) (U : List (Nat × Nat)) (w : World) (h : IsSets base w g E U) (hE : E.length ≤ 10000) (hU : U.length ≤ 10000) :
    Calls Try.prog 22 #[.pointer (some ⟨g, 0, none⟩)] w fun e w' => e = .returned (.int .i64 ((E.length : Int) - U.length)) ∧ ∃ q, w' = w.drewN q := by
  obtain ⟨eb, A, c, -, -, -, -, c0, c1, -, -⟩ := h.parts
  clear h
  generalize E.length = n at c0 hE ⊢
  generalize U.length = m at c1 hU ⊢
  have hw1 : IntKind.i64.wrap ((n : Int) - (m : Int)) = (n : Int) - (m : Int) := IntWalk.i64_in _ (by omega)
  go_enter Try.func22, Try.ntmps22
  go_wp2
  go_quiet (fail)
  go_wp2
  go_ret
  exact ⟨rfl, _, rfl⟩
end Go.Proofs.Ytdffgkhlkbaecaa.Tok
