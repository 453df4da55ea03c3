/- The law of Undo: every way through it returns true. -/
import Derived.Test.YtimgnmlcgnibhaaUnionP
import Derived.Test.YtimgnmlcgnibhaaUndo2
import Derived.Test.YtimgnmlcgnibhaaAwake12
import Derived.Test.YtimgnmlcgnibhaaOpenPairs
namespace Go.Proofs.Ytimgnmlcgnibhaa.Tok
open Go.RowKit Go.Proofs.Ytimgnmlcgnibhaa

theorem pr_at (l : List PrT) (k : Nat) (h : k < l.length) : (l.flatMap prV)[k * 2]? = some (.int .u8 (l[k].1 : Nat)) ∧ (l.flatMap prV)[k * 2 + 1]? = some (.int .u8 (l[k].2 : Nat)) :=
  ⟨(flatN 2 prV (fun _ => rfl) l k 0 h (by omega)).trans rfl, (flatN 2 prV (fun _ => rfl) l k 1 h (by omega)).trans rfl⟩
/-- The sets in one round of the law. -/
structure SetsAt (w : World) (n : Nat) (g : Nat) (E : List El) (U : List (Nat × Nat)) (m : Nat) (wr : World) : Prop where
  sets : IsSets w.heap.size wr g E U
  past : Past n E U
  few : U.length ≤ m
  below : Below w.heap.size w wr
section
variable {w wr w1 : World} {n g m : Nat} {E : List El} {U : List (Nat × Nat)}
theorem SetsAt.same (h : SetsAt w n g E U m wr) (hb : Below wr.heap.size wr w1) : SetsAt w n g E U m w1 :=
  ⟨h.sets.below hb, h.past, h.few, h.below.trans (hb.mono h.below.size)⟩
theorem SetsAt.uni (h : SetsAt w n g E U m wr) (hn : n ≤ 10000) {a b : Nat} (ha : a < n) (hb : b < n) (h1 : IsSets w.heap.size w1 g (uniP E a b) (uniU E U a b)) (hw : BK w.heap.size wr w1) : SetsAt w n g (uniP E a b) (uniU E U a b) (m + 1) w1 :=
  ⟨h1, h.past.uniP hn ha hb, by rw [uniU_len]; have := h.few; split <;> omega, h.below.trans hw.below⟩
end
/-- The sets in one round of the second loop, and the classes as they were ahead of it. -/
structure UndoSt (w : World) (n g : Nat) (E0 : List El) (U0 : List (Nat × Nat)) (v : Value) (L : List (List Nat)) (E : List El) (U : List (Nat × Nat)) (m : Nat) (wr : World) : Prop where
  st : SetsAt w n g E U m wr
  ch : Chain E0 U0 E U
  ls : ∃ b vs, Lists b wr v vs L
section
variable {w wr w1 : World} {n g m : Nat} {E E0 : List El} {U U0 : List (Nat × Nat)} {v : Value} {L : List (List Nat)}
theorem UndoSt.same (h : UndoSt w n g E0 U0 v L E U m wr) (hb : Below wr.heap.size wr w1) : UndoSt w n g E0 U0 v L E U m w1 :=
  ⟨h.st.same hb, h.ch, by obtain ⟨b, vs, hl⟩ := h.ls; exact ⟨b, vs, hl.below hb⟩⟩
theorem UndoSt.drewN (h : UndoSt w n g E0 U0 v L E U m wr) (q : Nat) : UndoSt w n g E0 U0 v L E U m (wr.drewN q) := h.same (below_drewN (Below.refl _ _) q)
theorem UndoSt.uni (h : UndoSt w n g E0 U0 v L E U m wr) (hn : n ≤ 10000) {a b : Nat} (ha : a < n) (hb : b < n) (h1 : IsSets w.heap.size w1 g (uniP E a b) (uniU E U a b)) (hw : BK w.heap.size wr w1) : UndoSt w n g E0 U0 v L (uniP E a b) (uniU E U a b) (m + 1) w1 :=
  ⟨h.st.uni hn ha hb h1 hw, h.ch.uniP hn h.st.past ha hb, by obtain ⟨b, vs, hl⟩ := h.ls; exact ⟨b, vs, hl.bk hw⟩⟩
end
set_option maxHeartbeats 3200000 in
set_option maxRecDepth 8000 in
theorem law_undo (n : Nat) (A1 A2 : Option Addr) (n1 c1 n2 c2 : Nat) (xs ys : List PrT) (w : World) (hn : n ≤ 255) (hm1 : n1 ≤ maxLen) (hm2 : n2 ≤ maxLen) (hx : ∀ x ∈ xs, PrOk x) (hy : ∀ x ∈ ys, PrOk x)
    (h1 : Rd w w.heap.size 2 A1 n1 (xs.flatMap prV)) (h2 : Rd w w.heap.size 2 A2 n2 (ys.flatMap prV)) :
    Calls Try.prog 9 #[.int .u8 (n : Nat), .slice A1 n1 c1, .slice A2 n2 c2] w fun e w' => e = .returned (.bool true) ∧ Below w.heap.size w w' := by
  have hl1 : xs.length = n1 := by have := h1.len; rw [flatN_len 2 prV (fun _ => rfl)] at this; omega
  have hl2 : ys.length = n2 := by have := h2.len; rw [flatN_len 2 prV (fun _ => rfl)] at this; omega
  unfold maxLen at hm1 hm2
  have H1 := Lib.hid h1
  have H2 := Lib.hid h2
  have Hx := Lib.hid hx
  have Hy := Lib.hid hy
  have Hl1 := Lib.hid hl1
  have Hl2 := Lib.hid hl2
  clear h1 h2 hx hy hl1 hl2
  have hcase : (60 < n ∨ (n ≤ 60 ∧ n = 0)) ∨ (n ≤ 60 ∧ 0 < n ∧ 80 < n1) ∨ (n ≤ 60 ∧ 0 < n ∧ n1 ≤ 80 ∧ 80 < n2) ∨ (n ≤ 60 ∧ 0 < n ∧ n1 ≤ 80 ∧ n2 ≤ 80) := by omega
  have HAw := Lib.hid (awake12_any w)
  rcases hcase with (h | ⟨h, rfl⟩) | ⟨h, h', h''⟩ | ⟨h, h', h'', h3⟩ | ⟨h, h', h'', h3⟩
  case' inl.inl => have g1 : decide (60 < n) = true := decide_eq_true h
  case' inr.inl => have g1 : decide (60 < n) = false := decide_eq_false (by omega)
  case' inr.inl => have g2 : ((n : Int) == 0) = false := by rw [beq_eq_false_iff_ne]; omega
  case' inr.inr.inl => have g1 : decide (60 < n) = false := decide_eq_false (by omega)
  case' inr.inr.inl => have g2 : ((n : Int) == 0) = false := by rw [beq_eq_false_iff_ne]; omega
  iterate 4
    go_enter Try.func9, Try.ntmps9
    go_wp2_with (go_at_call 11; refine (HAw.out).mono ?_; rintro e w' ⟨rfl, hb⟩)
    go_ret
    exact ⟨rfl, hb⟩
  clear HAw
  have g1 : decide (60 < n) = false := decide_eq_false (by omega)
  have g2 : ((n : Int) == 0) = false := by rw [beq_eq_false_iff_ne]; omega
  have hwn : IntKind.i64.wrap (n : Int) = (n : Int) := IntWalk.i64_in _ (by omega)
  go_enter Try.func9, Try.ntmps9
  go_wp2_with fail
  refine (newSets_any (n : Int) w (by omega) (by omega)).mono ?_
  rintro e w1 (⟨hno, -⟩ | ⟨-, -, g, rfl, hS, hb1⟩)
  · exact absurd (by omega) hno
  rw [Int.toNat_natCast] at hS
  have HS1 : Hid (SetsAt w n g (ones n) [] 0 w1) := ⟨hS, Past.start, Nat.zero_le _, hb1⟩
  clear hS hb1 g1
  go_wp2
  go_loopw [54] (fun i wr => ∃ (k : Nat) (E : List El) (U : List (Nat × Nat)), k ≤ n1 ∧ i = .int .i64 k ∧ Hid (SetsAt w n g E U k wr)) (fun i _ => n1 - (intOf i).toNat)
  case atStart => exact ⟨0, _, _, Nat.zero_le _, rfl, HS1.out⟩
  case round =>
    clear HS1
    obtain ⟨k, E, U, hk, rfl, hat⟩ := hrel
    have hz := hat.out.below.size
    by_cases hlt : k < n1
    · obtain ⟨b, off, rfl, hbb, hc⟩ := H1.out.pos (by omega)
      have hkx : k < xs.length := by have := Hl1.out; omega
      obtain ⟨p0, p1⟩ := pr_at xs k hkx
      have hok := Hx.out _ (List.getElem_mem hkx)
      have d0 := (hat.out.below.cell (p := ⟨b, off + k * 2, none⟩) (by show b < _; omega)).trans (hc _ _ p0)
      have d1 := (hat.out.below.cell (p := ⟨b, off + (k * 2 + 1), none⟩) (by show b < _; omega)).trans (hc _ _ p1)
      rw [← Nat.add_assoc] at d1
      obtain ⟨⟨x, y⟩, hxy⟩ : ∃ q, q = xs[k] := ⟨_, rfl⟩
      rw [← hxy] at d0 d1 hok
      obtain ⟨ox, oy⟩ := hok
      simp only at d0 d1 ox oy
      have hbl : b < wr.heap.size := by omega
      clear p0 p1 hxy hc hkx
      go_wp2
      generalize hwq : World.alloc wr _ = wq
      have q0 : wq.cell? ⟨wr.heap.size, 0, none⟩ = some (.int .u8 (x : Nat)) := by subst hwq; rw [cell_of_row _ _ _ _ _ _ (heap_alloc_new wr _)]; rfl
      have q1 : wq.cell? ⟨wr.heap.size, 1, none⟩ = some (.int .u8 (y : Nat)) := by subst hwq; rw [cell_of_row _ _ _ _ _ _ (heap_alloc_new wr _)]; rfl
      have Hat : Hid (SetsAt w n g E U k wq.drew) := by subst hwq; exact hat.out.same ((Below.refl _ _).alloc (Nat.le_refl _) _).drew
      have t1 : Int.tmod (x : Int) (n : Int) = ((x % n : Nat) : Int) := by rw [Int.tmod_eq_emod_of_nonneg (by omega)]; omega
      have t2 : Int.tmod (y : Int) (n : Int) = ((y % n : Nat) : Int) := by rw [Int.tmod_eq_emod_of_nonneg (by omega)]; omega
      have ha : x % n < n := Nat.mod_lt _ h'
      have hb : y % n < n := Nat.mod_lt _ h'
      generalize x % n = a at t1 ha
      generalize y % n = b2 at t2 hb
      have w1 : IntKind.i64.wrap (a : Int) = (a : Int) := IntWalk.i64_in _ (by omega)
      have w2 : IntKind.i64.wrap (b2 : Int) = (b2 : Int) := IntWalk.i64_in _ (by omega)
      have hn0 : ¬ n = 0 := by omega
      clear hwq d0 d1
      go_still_tail 11, (by kernel_rfl)
      change wpList _ _ _ _ _ wq.drew
      generalize wq.drew = wz at Hat ⊢
      go_wp2_with fail
      refine (union_any a b2 g n E U wz Hat.out.sets (by omega) (by have := Hat.out.few; omega) Hat.out.past ha hb).mono ?_
      rintro e w' ⟨rfl, hS2, hB2⟩
      have Hat2 := Lib.hid (Hat.out.uni (by omega) ha hb hS2 hB2)
      clear hS2 hB2 q0 q1
      go_wp2
      go_light
      exact ⟨⟨k + 1, _, _, by omega, by go_num, Hat2.out⟩, by simp [intOf]; omega⟩
    · obtain rfl : k = n1 := by omega
      have hEn := hat.out.past.len
      go_wp2_with fail
      refine (classes_any g n E U wr hat.out.sets (hat.out.past.ok (by omega)) hEn (by omega)).mono ?_
      rintro e w2 ⟨before, rfl, hls, hb2⟩
      have Hat2 := Lib.hid (hat.out.same hb2)
      have Hls := Lib.hid hls
      clear hls hb2
      go_wp2_with fail
      refine (markSets_any g E U w2 Hat2.out.sets).mono ?_
      rintro e w' ⟨rfl, hw⟩; obtain rfl := hw.symm; clear hw
      have HSt : Hid (UndoSt w n g E U before (cls (root E) n) E U (k + 0) w2) := ⟨Hat2.out, Chain.here, by obtain ⟨vs, hl⟩ := Hls.out; exact ⟨_, vs, hl⟩⟩
      have hUk := hat.out.few
      have Hat0 := hat
      clear hat Hat2 Hls hEn
      go_wp2
      go_loopw [77] (fun i wr => ∃ (j : Nat) (E2 : List El) (U2 : List (Nat × Nat)), j ≤ n2 ∧ i = .int .i64 j ∧ Hid (UndoSt w n g E U before (cls (root E) n) E2 U2 (k + j) wr)) (fun i _ => n2 - (intOf i).toNat)
      case atStart => exact ⟨0, _, _, Nat.zero_le _, rfl, HSt.out⟩
      case round =>
        clear HSt
        obtain ⟨j, E2, U2, hj, rfl, hst⟩ := hrel
        have hz2 := hst.out.st.below.size
        by_cases hlt : j < n2
        · obtain ⟨b, off, rfl, hbb, hc⟩ := H2.out.pos (by omega)
          have hkx : j < ys.length := by have := Hl2.out; omega
          obtain ⟨p0, p1⟩ := pr_at ys j hkx
          have hok := Hy.out _ (List.getElem_mem hkx)
          have d0 := (hst.out.st.below.cell (p := ⟨b, off + j * 2, none⟩) (by show b < _; omega)).trans (hc _ _ p0)
          have d1 := (hst.out.st.below.cell (p := ⟨b, off + (j * 2 + 1), none⟩) (by show b < _; omega)).trans (hc _ _ p1)
          rw [← Nat.add_assoc] at d1
          obtain ⟨⟨x, y⟩, hxy⟩ : ∃ q, q = ys[j] := ⟨_, rfl⟩
          rw [← hxy] at d0 d1 hok
          obtain ⟨ox, oy⟩ := hok
          simp only at d0 d1 ox oy
          have hbl : b < wr.heap.size := by omega
          clear p0 p1 hxy hc hkx
          go_wp2
          generalize hwq : World.alloc wr _ = wq
          have q0 : wq.cell? ⟨wr.heap.size, 0, none⟩ = some (.int .u8 (x : Nat)) := by subst hwq; rw [cell_of_row _ _ _ _ _ _ (heap_alloc_new _ _)]; rfl
          have q1 : wq.cell? ⟨wr.heap.size, 1, none⟩ = some (.int .u8 (y : Nat)) := by subst hwq; rw [cell_of_row _ _ _ _ _ _ (heap_alloc_new _ _)]; rfl
          have Hst : Hid (UndoSt w n g E U before (cls (root E) n) E2 U2 (k + j) wq) := by subst hwq; exact hst.out.same ((Below.refl _ _).alloc (Nat.le_refl _) _)
          have t1 : Int.tmod (x : Int) (n : Int) = ((x % n : Nat) : Int) := by rw [Int.tmod_eq_emod_of_nonneg (by omega)]; omega
          have t2 : Int.tmod (y : Int) (n : Int) = ((y % n : Nat) : Int) := by rw [Int.tmod_eq_emod_of_nonneg (by omega)]; omega
          have ha : x % n < n := Nat.mod_lt _ h'
          have hb : y % n < n := Nat.mod_lt _ h'
          generalize x % n = a at t1 ha
          generalize y % n = b2 at t2 hb
          have w1 : IntKind.i64.wrap (a : Int) = (a : Int) := IntWalk.i64_in _ (by omega)
          have w2 : IntKind.i64.wrap (b2 : Int) = (b2 : Int) := IntWalk.i64_in _ (by omega)
          have hn0 : ¬ n = 0 := by omega
          clear hwq d0 d1 hst
          go_quiet (fail)
          clear q0 q1 t1 t2 w1 w2 hn0
          go_wp2_with fail
          generalize hzz : World.drewN wq _ = wz
          have Hz : Hid (UndoSt w n g E U before (cls (root E) n) E2 U2 (k + j) wz) := by subst hzz; exact Hst.out.drewN _
          clear hzz Hst
          have hU2 := Hz.out.st.few
          have hp := lea_uniP (by omega) Hz.out.st.past ha hb ha
          have hq := lea_uniP (by omega) Hz.out.st.past ha hb hb
          rw [if_pos (.inl rfl)] at hp
          rw [if_pos (.inr rfl)] at hq
          have hlen := Hz.out.st.past.len
          have hplt := lea_lt (Hz.out.st.past.ok (by omega)) (Hz.out.st.past.low (by omega)) (show a < E2.length by omega)
          have hqlt := lea_lt (Hz.out.st.past.ok (by omega)) (Hz.out.st.past.low (by omega)) (show b2 < E2.length by omega)
          have HFa : Hid (∀ W, UndoSt w n g E U before (cls (root E) n) E2 U2 (k + j) W → Calls Try.prog 40 #[.pointer (some ⟨g, 0, none⟩), .int .i64 a] W fun e w' => e = .returned (.tuple #[.int .i64 (lea E2 a : Nat), .int .i64 0]) ∧ ∃ q, w' = W.drewN q) := fun W h => find_any a g n E2 U2 W h.st.sets (by omega) h.st.past ha
          have HFb : Hid (∀ W, UndoSt w n g E U before (cls (root E) n) E2 U2 (k + j) W → Calls Try.prog 40 #[.pointer (some ⟨g, 0, none⟩), .int .i64 b2] W fun e w' => e = .returned (.tuple #[.int .i64 (lea E2 b2 : Nat), .int .i64 0]) ∧ ∃ q, w' = W.drewN q) := fun W h => find_any b2 g n E2 U2 W h.st.sets (by omega) h.st.past hb
          have HUn : Hid (∀ W, UndoSt w n g E U before (cls (root E) n) E2 U2 (k + j) W → Calls Try.prog 41 #[.pointer (some ⟨g, 0, none⟩), .int .i64 a, .int .i64 b2] W fun e w' => e = .returned (.tuple #[.bool (lea E2 a != lea E2 b2), .int .i64 0]) ∧ Hid (UndoSt w n g E U before (cls (root E) n) (uniP E2 a b2) (uniU E2 U2 a b2) (k + j + 1) w')) := fun W h =>
            (union_any a b2 g n E2 U2 W h.st.sets (by omega) (by omega) h.st.past ha hb).mono fun e w' ⟨h1, h2, h3⟩ => ⟨h1, h.uni (by omega) ha hb h2 h3⟩
          have HGa : Hid (∀ W, UndoSt w n g E U before (cls (root E) n) (uniP E2 a b2) (uniU E2 U2 a b2) (k + j + 1) W → Calls Try.prog 40 #[.pointer (some ⟨g, 0, none⟩), .int .i64 a] W fun e w' => e = .returned (.tuple #[.int .i64 (min (lea E2 a) (lea E2 b2) : Nat), .int .i64 0]) ∧ ∃ q, w' = W.drewN q) := fun W h => by
            have := find_any a g n _ _ W h.st.sets (by omega) h.st.past ha
            rwa [hp] at this
          have HGb : Hid (∀ W, UndoSt w n g E U before (cls (root E) n) (uniP E2 a b2) (uniU E2 U2 a b2) (k + j + 1) W → Calls Try.prog 40 #[.pointer (some ⟨g, 0, none⟩), .int .i64 b2] W fun e w' => e = .returned (.tuple #[.int .i64 (min (lea E2 a) (lea E2 b2) : Nat), .int .i64 0]) ∧ ∃ q, w' = W.drewN q) := fun W h => by
            have := find_any b2 g n _ _ W h.st.sets (by omega) h.st.past hb
            rwa [hq] at this
          clear hp hq
          obtain ⟨P, hP⟩ : ∃ P, P = lea E2 a := ⟨_, rfl⟩
          obtain ⟨Q, hQ⟩ : ∃ Q, Q = lea E2 b2 := ⟨_, rfl⟩
          rw [← hP] at HFa HUn HGa HGb hplt
          rw [← hQ] at HFb HUn HGa HGb hqlt
          clear hP hQ
          obtain ⟨M, hM⟩ : ∃ M, M = min P Q := ⟨_, rfl⟩
          rw [← hM] at HGa HGb
          refine (HFa.out _ Hz.out).mono ?_
          rintro e w' ⟨rfl, q1, rfl⟩
          have Hz1 := Lib.hid (Hz.out.drewN q1)
          generalize World.drewN wz q1 = wz1 at Hz1 ⊢
          clear Hz
          go_wp2_with fail
          refine (HFb.out _ Hz1.out).mono ?_
          rintro e w' ⟨rfl, q2, rfl⟩
          have Hz2 := Lib.hid (Hz1.out.drewN q2)
          generalize World.drewN wz1 q2 = wz2 at Hz2 ⊢
          clear Hz1
          go_wp2_with fail
          refine (HUn.out _ Hz2.out).mono ?_
          rintro e wz3 ⟨rfl, Hz3⟩
          have hmin : min (P : Int) (Q : Int) = (M : Int) := by omega
          have hmm : ((M : Int) != (M : Int)) = false := by rw [bne_eq_false_iff_eq]
          have hc2 : (P = Q ∧ ((P : Int) != (Q : Int)) = false ∧ (P != Q) = false) ∨ (P ≠ Q ∧ ((P : Int) != (Q : Int)) = true ∧ (P != Q) = true) := by
            by_cases e : P = Q
            · exact .inl ⟨e, by rw [bne_eq_false_iff_eq, e], by rw [bne_eq_false_iff_eq, e]⟩
            · exact .inr ⟨e, by rw [bne_iff_ne]; omega, by rw [bne_iff_ne]; exact e⟩
          have HM := Lib.hid hM
          clear HFa HFb HUn Hz2 hM
          rcases hc2 with ⟨he, e1, e2⟩ | ⟨he, e1, e2⟩
          all_goals
            rw [e2]
            clear he e2
            go_wp2_with fail
            refine (HGa.out _ Hz3.out).mono ?_
            rintro e w' ⟨rfl, q3, rfl⟩
            have Hz4 := Lib.hid (Hz3.out.drewN q3)
            generalize World.drewN wz3 q3 = wz4 at Hz4 ⊢
            clear Hz3
            go_wp2_with fail
            refine (HGb.out _ Hz4.out).mono ?_
            rintro e w' ⟨rfl, q4, rfl⟩
            have Hz5 := Lib.hid (Hz4.out.drewN q4)
            generalize World.drewN wz4 q4 = wz5 at Hz5 ⊢
            clear Hz4
            go_wp2
            go_light
            exact ⟨⟨j + 1, _, _, by omega, by go_num, Hz5.out⟩, by simp [intOf]; omega⟩
        · obtain rfl : j = n2 := by omega
          have hUn := hst.out.st.few
          go_wp2_with fail
          refine (undoSets_any (base := w.heap.size) g n U.length E E2 U U2 wr hst.out.st.sets (by omega) (by omega) hst.out.st.past hst.out.ch rfl).mono ?_
          rintro e w3 ⟨rfl, hS3, hB3⟩
          have Hb3 := Lib.hid (hst.out.st.below.trans hB3.below)
          have Hls : Hid (∃ b vs, Lists b w3 before vs (cls (root E) n)) := by obtain ⟨b, vs, hl⟩ := hst.out.ls; exact ⟨b, vs, hl.bk hB3⟩
          have HC := Lib.hid (classes_any g n E U w3 hS3 (Hat0.out.past.ok (by omega)) Hat0.out.past.len (by omega))
          clear hS3 hB3 hst
          go_wp2_with fail
          refine (HC.out).mono ?_
          rintro e w4 ⟨after, rfl, hls4, hb4⟩
          have Hb4 := Lib.hid (Hb3.out.trans (hb4.mono Hb3.out.size))
          have HE : Hid (Calls Try.prog 49 #[after, before] w4 fun e w' => e = .returned (.bool true) ∧ ∃ q, w' = w4.drewN q) := by
            obtain ⟨b, vs, hl⟩ := Hls.out
            refine classesEq_any after before _ b _ w4 ?_ ?_ hls4 ⟨vs, hl.below hb4⟩
            · rw [cls_len]; have := firsts_len (f := root E) n; omega
            · intro l hl2
              unfold cls at hl2
              obtain ⟨r, -, rfl⟩ := List.mem_map.1 hl2
              have := clsOf_len (f := root E) n r
              omega
          clear HC Hls hls4 hb4 Hb3
          go_wp2_with fail
          refine (HE.out).mono ?_
          rintro e w5 ⟨rfl, q5, rfl⟩
          have Hb5 := Lib.hid (below_drewN Hb4.out q5)
          generalize World.drewN w4 q5 = w5 at Hb5 ⊢
          clear HE Hb4
          go_wp2_with fail
          refine (awake12_any w5).mono ?_
          rintro e w6 ⟨rfl, hb6⟩
          have Hb6 := Lib.hid (Hb5.out.trans (hb6.mono Hb5.out.size))
          clear hb6 Hb5
          go_wp2
          go_ret
          exact ⟨rfl, Hb6.out⟩
theorem law_undo' (a0 : Int) (A1 A2 : Option Addr) (n1 c1 n2 c2 : Nat) (xs ys : List PrT) (w : World) (w0 : (Lit.int .u8 a0).wf = true) (hm1 : n1 ≤ maxLen) (hm2 : n2 ≤ maxLen) (hx : ∀ x ∈ xs, PrOk x) (hy : ∀ x ∈ ys, PrOk x)
    (h1 : Rd w w.heap.size 2 A1 n1 (xs.flatMap prV)) (h2 : Rd w w.heap.size 2 A2 n2 (ys.flatMap prV)) :
    Calls Try.prog 9 #[.int .u8 a0, .slice A1 n1 c1, .slice A2 n2 c2] w fun e w' => e = .returned (.bool true) ∧ Below w.heap.size w w' := by
  obtain ⟨k, rfl, hk⟩ := u8_of w0
  exact law_undo k A1 A2 n1 c1 n2 c2 xs ys w hk hm1 hm2 hx hy h1 h2
end Go.Proofs.Ytimgnmlcgnibhaa.Tok
