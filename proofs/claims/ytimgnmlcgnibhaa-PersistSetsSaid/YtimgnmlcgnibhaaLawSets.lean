/- The law of the sets beside the reference's: every way through it returns true. -/
import Derived.Test.YtimgnmlcgnibhaaSetsBoth
import Derived.Test.YtimgnmlcgnibhaaAwake12
import Derived.Test.YtimgnmlcgnibhaaOpenSetOps
import Derived.Deep.CutBlock
import Derived.Deep.DeepCutAuto
namespace Go.Proofs.Ytimgnmlcgnibhaa.Tok
open Go.RowKit Go.Proofs.Ytimgnmlcgnibhaa

theorem so_at (l : List SoT) (k : Nat) (h : k < l.length) : (l.flatMap soV)[k * 3]? = some (.int .u8 (l[k].kind : Nat)) ∧ (l.flatMap soV)[k * 3 + 1]? = some (.int .i64 l[k].a) ∧ (l.flatMap soV)[k * 3 + 2]? = some (.int .i64 l[k].b) :=
  ⟨(flatN 3 soV (fun _ => rfl) l k 0 h (by omega)).trans rfl, (flatN 3 soV (fun _ => rfl) l k 1 h (by omega)).trans rfl, (flatN 3 soV (fun _ => rfl) l k 2 h (by omega)).trans rfl⟩
section
variable {w W : World} {n g B i : Nat} {Q : List (Nat × Array Value × TypeId)} {E : List El} {U : List (Nat × Nat)} {cs : Array Value} {A1 A2 : Option Addr} {p c1 c2 : Nat} {cur : List Nat} {hs : List (List Nat)}
theorem SMid.op {x0 x1 x2 : Value} {T : TypeId} (h : SMid w n g B ((i, #[x0, x1, x2], T) :: Q) E U cs A1 A2 p c2 cur hs W) : W.cell? ⟨i, 0, none⟩ = some x0 ∧ W.cell? ⟨i, 1, none⟩ = some x1 ∧ W.cell? ⟨i, 2, none⟩ = some x2 := by
  have hr := h.qrow (i, #[x0, x1, x2], T) (by simp)
  exact ⟨(cell_of_row _ _ 0 _ _ _ hr).trans rfl, (cell_of_row _ _ 1 _ _ _ hr).trans rfl, (cell_of_row _ _ 2 _ _ _ hr).trans rfl⟩
theorem SMid.cells (h : SMid w n g B Q E U #[.slice A1 n c1, .slice A2 p c2] A1 A2 p c2 cur hs W) : W.cell? ⟨B, 0, none⟩ = some (.slice A1 n c1) ∧ W.cell? ⟨B, 1, none⟩ = some (.slice A2 p c2) :=
  ⟨(cell_of_row _ _ 0 _ _ _ h.row).trans rfl, (cell_of_row _ _ 1 _ _ _ h.row).trans rfl⟩
theorem SMid.lt (h : SMid w n g B Q E U cs A1 A2 p c2 cur hs W) : B < W.heap.size := (Array.getElem?_eq_some_iff.1 h.row).1
end
set_option maxHeartbeats 3200000 in
set_option maxRecDepth 8000 in
theorem law_sets_big (n : Int) (A : Option Addr) (m hc : Nat) (w : World) (hm : m ≤ maxLen) (hn : (60 < n ∧ n ≤ 10000) ∨ 80 < m) :
    Calls Try.prog 8 #[.int .i64 n, .slice A m hc] w fun e w' => e = .returned (.bool true) ∧ Below w.heap.size w w' := by
  have HAw := Lib.hid (awake12_any w)
  unfold maxLen at hm
  have hcase : (60 < n ∧ n ≤ 10000) ∨ (n ≤ 60 ∧ 80 < m) ∨ (60 < n ∧ 10000 < n ∧ 80 < m) := by omega
  clear hn
  rcases hcase with ⟨h1, h2⟩ | ⟨h1, h2⟩ | ⟨h1, h2, h3⟩
  case' inl => have g1 : decide (60 < n) = true := decide_eq_true h1
  case' inl => have g2 : decide (n ≤ 10000) = true := decide_eq_true h2
  case' inr.inl => have g1 : decide (60 < n) = false := decide_eq_false (by omega)
  case' inr.inl => have g2 : decide (80 < m) = true := decide_eq_true h2
  case' inr.inr => have g1 : decide (60 < n) = true := decide_eq_true h1
  case' inr.inr => have g2 : decide (n ≤ 10000) = false := decide_eq_false (by omega)
  case' inr.inr => have g3 : decide (80 < m) = true := decide_eq_true h3
  all_goals
    go_enter Try.func8, Try.ntmps8
    go_wp2_with (go_at_call 11; refine (HAw.out).mono ?_; rintro e w' ⟨rfl, hb⟩)
    go_ret
    exact ⟨rfl, hb⟩
set_option maxHeartbeats 3200000 in
set_option maxRecDepth 8000 in
theorem law_sets_none (n : Int) (A : Option Addr) (m hc : Nat) (w : World) (hm : m ≤ 80) (hn : n < 0 ∨ 10000 < n) (hn1 : -9223372036854775808 ≤ n) (hn2 : n ≤ 9223372036854775807) :
    Calls Try.prog 8 #[.int .i64 n, .slice A m hc] w fun e w' => e = .returned (.bool true) ∧ Below w.heap.size w w' := by
  have HN := Lib.hid (rnewSets_no n w (by omega))
  have HP : Hid (Calls Try.prog 38 #[.int .i64 n] w fun e w' => e = .returned (.tuple #[.pointer none, .int .i64 3]) ∧ w' = w) := (newSets_any n w hn1 hn2).mono fun e w' h => by
    rcases h with ⟨-, h1, h2⟩ | ⟨h9, h10, -⟩
    · exact ⟨h1, h2⟩
    · omega
  have g3 : decide (80 < m) = false := decide_eq_false (by omega)
  rcases hn with h1 | h1
  case' inl => have g1 : decide (60 < n) = false := decide_eq_false (by omega)
  case' inr => have g1 : decide (60 < n) = true := decide_eq_true (by omega)
  case' inr => have g2 : decide (n ≤ 10000) = false := decide_eq_false (by omega)
  all_goals
    go_enter Try.func8, Try.ntmps8
    go_wp2_with fail
    refine (HP.out).mono ?_
    rintro e w' ⟨rfl, hw⟩
    obtain rfl := hw.symm
    clear hw HP g1 g3 h1
    have hnil : ∀ w, (binOp .eql 82 (.slice none 0 0) (.slice none 0 0)).run Try.prog w = .ok (.bool true) w := fun w => Lib.run_eql_slice_nil w _ _ none 0 0 0 0 Try.underlying82
    go_wp2_with fail
    refine (HN.out).mono ?_
    rintro e w1 ⟨rfl, hb1⟩
    have Hb1 := Lib.hid (hb1.alloc hb1.size (.cells #[.slice none 0 0, .slice none 0 0] 84))
    clear hb1 HN
    go_wp2_with fail
    refine (findSets_none 0 _).mono ?_
    rintro e w' ⟨rfl, hw⟩; obtain rfl := hw.symm; clear hw
    go_wp2_with fail
    refine (unionSets_none 0 0 _).mono ?_
    rintro e w' ⟨rfl, hw⟩; obtain rfl := hw.symm; clear hw
    go_wp2_with fail
    refine (undoSets_none 0 _).mono ?_
    rintro e w' ⟨rfl, hw⟩; obtain rfl := hw.symm; clear hw
    go_wp2_with fail
    refine (countSets_none _).mono ?_
    rintro e w' ⟨rfl, hw⟩; obtain rfl := hw.symm; clear hw
    go_wp2_with fail
    refine (markSets_none _).mono ?_
    rintro e w' ⟨rfl, hw⟩; obtain rfl := hw.symm; clear hw
    go_wp2_with fail
    refine (classesSets_none _).mono ?_
    rintro e w' ⟨rfl, hw⟩; obtain rfl := hw.symm; clear hw
    go_wp2_with fail
    refine (awake12_any _).mono ?_
    rintro e w2 ⟨rfl, hb2⟩
    have Hb2 := Lib.hid (Hb1.out.trans (hb2.mono Hb1.out.size))
    clear hb2
    go_wp2
    go_ret
    exact ⟨rfl, Hb2.out⟩
set_option maxHeartbeats 3200000 in
set_option maxRecDepth 8000 in
theorem law_sets_some (n : Nat) (A : Option Addr) (m hc : Nat) (ts : List SoT) (w : World) (hn : n ≤ 60) (hm : m ≤ 80) (hq : ∀ t ∈ ts, SoOk t) (hr : Rd w w.heap.size 3 A m (ts.flatMap soV)) :
    Calls Try.prog 8 #[.int .i64 n, .slice A m hc] w fun e w' => e = .returned (.bool true) ∧ Below w.heap.size w w' := by
  have hlen : ts.length = m := by have := hr.len; rw [flatN_len 3 soV (fun _ => rfl)] at this; omega
  have Hlen := Lib.hid hlen
  have Hr := Lib.hid hr
  have Hq := Lib.hid hq
  clear hlen hr hq
  have g1 : decide ((60 : Int) < (n : Int)) = false := decide_eq_false (by omega)
  have g1' : decide (60 < n) = false := decide_eq_false (by omega)
  have g3 : decide (80 < m) = false := decide_eq_false (by omega)
  have HP := Lib.hid (newSets_any (n : Int) w (by omega) (by omega))
  go_enter Try.func8, Try.ntmps8
  go_wp2_with fail
  refine (HP.out).mono ?_
  rintro e w1 (⟨hno, -⟩ | ⟨-, -, g, rfl, hS, hb1⟩)
  · exact absurd (by omega) hno
  rw [Int.toNat_natCast] at hS
  have HS := Lib.hid hS
  have Hb1 := Lib.hid hb1
  clear hS hb1 HP g1 g1' g3
  go_wp2_with fail
  refine (rnewSets_yes n w1 hn).mono ?_
  rintro e w2 ⟨A1, c1, rfl, hcur, hb2⟩
  have HS1 : Hid (SMid w n g w2.heap.size [] (ones n) [] #[.slice A1 n c1, .slice none 0 0] A1 none 0 0 (leas (ones n) n) [] (w2.alloc (.cells #[.slice A1 n c1, .slice none 0 0] 84))) := by
    have hb3 : Below w2.heap.size w2 (w2.alloc (.cells #[.slice A1 n c1, .slice none 0 0] 84)) := (Below.refl _ _).alloc (Nat.le_refl _) _
    have hz := hb2.size
    refine ⟨(HS.out.below hb2).below hb3, ⟨?_, ⟨[], ⟨rfl, fun h => by omega⟩, rfl, fun i v l h => by simp at h⟩, Nat.le_refl _⟩, heap_alloc_new _ _, (Hb1.out.trans (hb2.mono Hb1.out.size)).trans (hb3.mono (by have := Hb1.out.size; omega)), fun x hx => by simp at hx, fun x hx => by simp at hx⟩
    rw [leas_ones]
    exact hcur.out.below hb3
  have hBw : w.heap.size ≤ w2.heap.size := by have := Hb1.out.size; have := hb2.size; omega
  clear HS Hb1 hcur hb2
  go_wp2
  obtain ⟨B, hB⟩ : ∃ B, B = w2.heap.size := ⟨_, rfl⟩
  rw [← hB] at HS1 hBw ⊢
  generalize World.alloc w2 _ = w3 at HS1 ⊢
  clear hB
  go_loopw [107] (fun iv wr => ∃ (k : Nat) (E : List El) (U : List (Nat × Nat)) (hs : List (List Nat)) (A1 : Option Addr) (c1 : Nat) (A2 : Option Addr) (p c2 : Nat), k ≤ m ∧ iv = .int .i64 k ∧ Hid (SMid w n g B [] E U #[.slice A1 n c1, .slice A2 p c2] A1 A2 p c2 (leas E n) hs wr) ∧ Hid (Both n E U hs) ∧ U.length ≤ k) (fun i _ => m - (intOf i).toNat)
  case atStart => exact ⟨0, _, _, _, _, _, _, _, _, Nat.zero_le _, rfl, HS1.out, Both.start, Nat.le_refl _⟩
  case round =>
    clear HS1
    obtain ⟨k, E, U, hs, A1, c1, A2, p, c2, hk, rfl, hrel, hboth, hfew⟩ := hrel
    have hz := hrel.out.below.size
    by_cases hlt : k < m
    · obtain ⟨b, off, rfl, hbb, hcc⟩ := Hr.out.pos (by omega)
      have hk1 : k < ts.length := by have := Hlen.out; omega
      obtain ⟨p0, p1, p2⟩ := so_at ts k hk1
      have d0 := (hrel.out.below.cell (p := ⟨b, off + k * 3, none⟩) (by show b < _; omega)).trans (hcc _ _ p0)
      have d1 := (hrel.out.below.cell (p := ⟨b, off + (k * 3 + 1), none⟩) (by show b < _; omega)).trans (hcc _ _ p1)
      have d2 := (hrel.out.below.cell (p := ⟨b, off + (k * 3 + 2), none⟩) (by show b < _; omega)).trans (hcc _ _ p2)
      rw [← Nat.add_assoc] at d1 d2
      have hok := Hq.out _ (List.getElem_mem hk1)
      obtain ⟨⟨xk, xa, xb⟩, hx⟩ : ∃ x, x = ts[k] := ⟨_, rfl⟩
      rw [← hx] at d0 d1 d2 hok
      obtain ⟨ok0, ⟨ok1, ok2⟩, ok3, ok4⟩ := hok
      simp only at d0 d1 d2 ok0 ok1 ok2 ok3 ok4
      have hbl : b < wr.heap.size := by omega
      have Hst : Hid (SMid w n g B [(wr.heap.size, #[.int .u8 (xk : Nat), .int .i64 xa, .int .i64 xb], 93)] E U #[.slice A1 n c1, .slice A2 p c2] A1 A2 p c2 (leas E n) hs (wr.alloc (.cells #[.int .u8 (xk : Nat), .int .i64 xa, .int .i64 xb] 93))) :=
        (hrel.out.same ((Below.refl _ _).alloc (Nat.le_refl _) _)).push (heap_alloc_new _ _) (by decide)
      have hpl : hs.length = p := by obtain ⟨vs, _, h2, _⟩ := hrel.out.rs.past; exact h2
      have q0 := Hst.out.op.1
      obtain ⟨mm, hm4⟩ : ∃ mm, mm = xk % 4 := ⟨_, rfl⟩
      have hmi : ((xk : Int) % 4) = (mm : Int) := by omega
      have hmt : Int.tmod (xk : Int) 4 = (mm : Int) := by rw [Int.tmod_eq_emod_of_nonneg (by omega)]; omega
      have hcs : (mm = 0 ∨ mm = 1) ∨ mm = 2 ∨ mm = 3 := by omega
      have Hpl := Lib.hid hpl
      have Hfew := Lib.hid hfew
      have Hrel := Lib.hid hrel.out
      clear p0 p1 p2 hx hcc hk1 hm4 hpl hrel
      obtain ⟨QQ, hQQ⟩ : ∃ QQ : List (Nat × Array Value × TypeId), QQ = [(wr.heap.size, #[.int .u8 (xk : Nat), .int .i64 xa, .int .i64 xb], 93)] := ⟨_, rfl⟩
      have HOP : Hid (∀ E U cs A1 A2 p c2 cur hs W, SMid w n g B QQ E U cs A1 A2 p c2 cur hs W → W.cell? ⟨wr.heap.size, 1, none⟩ = some (.int .i64 xa) ∧ W.cell? ⟨wr.heap.size, 2, none⟩ = some (.int .i64 xb)) := fun E U cs A1 A2 p c2 cur hs W h => by
        rw [hQQ] at h
        exact h.op.2
      have HOL : Hid (∀ E U cs A1 A2 p c2 cur hs W, SMid w n g B QQ E U cs A1 A2 p c2 cur hs W → wr.heap.size < W.heap.size) := fun E U cs A1 A2 p c2 cur hs W h => by
        rw [hQQ] at h
        exact (Array.getElem?_eq_some_iff.1 (h.qrow _ (List.mem_cons_self ..))).1
      rw [← hQQ] at Hst
      clear hQQ
      obtain ⟨e1, e2⟩ := HOP.out _ _ _ _ _ _ _ _ _ _ Hst.out
      have rB := Hst.out.row
      have hke : k ≤ 80 := by omega
      have Hf := Lib.hid hfew
      go_upto_block 2 with fail
      generalize World.alloc wr _ = w3 at Hst e1 e2 rB q0 ⊢
      go_cut [107] (fun iv wx => iv = .int .i64 k ∧ ∃ (E : List El) (U : List (Nat × Nat)) (hs : List (List Nat)) (A1 : Option Addr) (c1 : Nat) (A2 : Option Addr) (p c2 : Nat), Hid (SMid w n g B [] E U #[.slice A1 n c1, .slice A2 p c2] A1 A2 p c2 (leas E n) hs wx) ∧ Hid (Both n E U hs) ∧ U.length ≤ k + 1)
      case first =>
        clear d0 d1 d2 q0
        rcases hcs with hcs | rfl | rfl
        · obtain ⟨bo, er, E1, U1, hU, hV⟩ := union_both (w := w) (n := n) (g := g) (B := B) (Q := QQ) (E := E) (U := U) (cs := #[.slice A1 n c1, .slice A2 p c2]) (A1 := A1) (A2 := A2) (p := p) (c2 := c2) (hs := hs) c1 k xa xb hn hke hboth.out Hpl.out Hf.out
          have HU := Lib.hid hU
          have HV := Lib.hid hV
          have hbo : (bo != bo) = false := by simp
          have her : (er != er) = false := by simp
          clear hU hV rB hfew
          rcases hcs with rfl | rfl
          · go_wp2_with fail
            refine (HU.out _ Hst.out).mono ?_
            rintro e w4 ⟨rfl, Hm⟩
            obtain ⟨e1, e2⟩ := HOP.out _ _ _ _ _ _ _ _ _ _ Hm.out
            have rB := Hm.out.row
            clear HU Hst
            go_wp2_with (refine wpList_load_row rfl 84 (.tmp 7) rfl B rfl 84 #[.slice A1 n c1, .slice A2 p c2] (0, 0) _ rB Try.underlying84 rfl sizeRS ?_)
            refine (HV.out _ Hm.out).mono ?_
            rintro e w5 ⟨A1', A2', c1', p', c2', hs', rfl, Hm2, Hb2, hf2⟩
            have Hm3 := Lib.hid (Hm2.out.same ((Below.refl _ _).alloc (Nat.le_refl _) (.cells #[.slice A1' n c1', .slice A2' p' c2'] 84)))
            have rB2 := Hm3.out.row
            have rR := heap_alloc_new w5 (.cells #[.slice A1' n c1', .slice A2' p' c2'] 84)
            clear rB e1 e2 Hm Hm2 HV
            go_wp2_with (first
              | (refine wpList_load_row rfl 84 (.tmp 18) rfl w5.heap.size rfl 84 #[.slice A1' n c1', .slice A2' p' c2'] (0, 0) _ rR Try.underlying84 rfl sizeRS ?_)
              | (refine wpList_store_row rfl 84 (.tmp 7) (.tmp 151) rfl B #[.slice A1' n c1', .slice A2' p' c2'] rfl rfl 84 #[.slice A1 n c1, .slice A2 p c2] rB2 sizeRS rfl (one_rs _ _ _ _ _ _) ?_))
            go_meet
            exact ⟨rfl, E1, U1, hs', A1', c1', A2', p', c2', Hm3.out.put hBw _, Hb2.out, hf2⟩
          · go_wp2_with fail
            refine (HU.out _ Hst.out).mono ?_
            rintro e w4 ⟨rfl, Hm⟩
            obtain ⟨e1, e2⟩ := HOP.out _ _ _ _ _ _ _ _ _ _ Hm.out
            have rB := Hm.out.row
            clear HU Hst
            go_wp2_with (refine wpList_load_row rfl 84 (.tmp 7) rfl B rfl 84 #[.slice A1 n c1, .slice A2 p c2] (0, 0) _ rB Try.underlying84 rfl sizeRS ?_)
            refine (HV.out _ Hm.out).mono ?_
            rintro e w5 ⟨A1', A2', c1', p', c2', hs', rfl, Hm2, Hb2, hf2⟩
            have Hm3 := Lib.hid (Hm2.out.same ((Below.refl _ _).alloc (Nat.le_refl _) (.cells #[.slice A1' n c1', .slice A2' p' c2'] 84)))
            have rB2 := Hm3.out.row
            have rR := heap_alloc_new w5 (.cells #[.slice A1' n c1', .slice A2' p' c2'] 84)
            clear rB e1 e2 Hm Hm2 HV
            go_wp2_with (first
              | (refine wpList_load_row rfl 84 (.tmp 18) rfl w5.heap.size rfl 84 #[.slice A1' n c1', .slice A2' p' c2'] (0, 0) _ rR Try.underlying84 rfl sizeRS ?_)
              | (refine wpList_store_row rfl 84 (.tmp 7) (.tmp 151) rfl B #[.slice A1' n c1', .slice A2' p' c2'] rfl rfl 84 #[.slice A1 n c1, .slice A2 p c2] rB2 sizeRS rfl (one_rs _ _ _ _ _ _) ?_))
            go_meet
            exact ⟨rfl, E1, U1, hs', A1', c1', A2', p', c2', Hm3.out.put hBw _, Hb2.out, hf2⟩
        · obtain ⟨v, er, hU, hV⟩ := find_both (w := w) (n := n) (g := g) (B := B) (Q := QQ) (E := E) (U := U) (cs := #[.slice A1 n c1, .slice A2 p c2]) (A1 := A1) (A2 := A2) (p := p) (c2 := c2) (hs := hs) c1 xa hn hboth.out
          have HU := Lib.hid hU
          have HV := Lib.hid hV
          have hbo : (v != v) = false := by simp
          have her : (er != er) = false := by simp
          clear hU hV rB hfew
          go_wp2_with fail
          refine (HU.out _ Hst.out).mono ?_
          rintro e w4 ⟨rfl, Hm⟩
          obtain ⟨e1, e2⟩ := HOP.out _ _ _ _ _ _ _ _ _ _ Hm.out
          have rB := Hm.out.row
          clear HU Hst
          go_wp2_with (refine wpList_load_row rfl 84 (.tmp 7) rfl B rfl 84 #[.slice A1 n c1, .slice A2 p c2] (0, 0) _ rB Try.underlying84 rfl sizeRS ?_)
          refine (HV.out _ Hm.out).mono ?_
          rintro e w5 ⟨rfl, Hm2⟩
          clear rB e1 e2 Hm HV
          go_wp2_with fail
          go_meet
          exact ⟨rfl, E, U, hs, A1, c1, A2, p, c2, Hm2.out.nil, hboth.out, by have := Hf.out; omega⟩
        · obtain ⟨er, E1, U1, hs1, p1, hB1, hf1, hV, hU⟩ := undo_both (w := w) (n := n) (g := g) (B := B) (Q := QQ) (E := E) (U := U) (cs := #[.slice A1 n c1, .slice A2 p c2]) (A1 := A1) (A2 := A2) (p := p) (c2 := c2) (hs := hs) c1 k xa hn hke hboth.out Hpl.out Hf.out
          have HU := Lib.hid hU
          have HV := Lib.hid hV
          have HB1 := Lib.hid hB1
          have her : (er != er) = false := by simp
          clear hU hV hfew hB1
          go_wp2_with (refine wpList_load_row rfl 84 (.tmp 7) rfl B rfl 84 #[.slice A1 n c1, .slice A2 p c2] (0, 0) _ rB Try.underlying84 rfl sizeRS ?_)
          refine (HV.out _ Hst.out).mono ?_
          rintro e w4 ⟨A1', A2', c1', c2', rfl, Hm⟩
          have Hm2 := Lib.hid ((Hm.out.same ((Below.refl _ _).alloc (Nat.le_refl _) (.cells #[.slice A1' n c1', .slice A2' p1 c2'] 84))).push (heap_alloc_new w4 _) (by decide))
          obtain ⟨e1, e2⟩ := HOP.out _ _ _ _ _ _ _ _ _ _ Hm.out
          have hq4 := HOL.out _ _ _ _ _ _ _ _ _ _ Hm.out
          clear HV Hst Hm rB
          go_wp2_with fail
          refine (HU.out _ _ _ _ _ Hm2.out).mono ?_
          rintro e w5 ⟨rfl, Hm3⟩
          have rB2 := Hm3.out.row
          have rR : w5.heap[w4.heap.size]? = _ := Hm3.out.qrow _ (List.mem_cons_self ..)
          clear e1 e2 Hm2 HU
          go_wp2_with (first
            | (refine wpList_load_row rfl 84 (.tmp 25) rfl w4.heap.size rfl 84 #[.slice A1' n c1', .slice A2' p1 c2'] (0, 0) _ rR Try.underlying84 rfl sizeRS ?_)
            | (refine wpList_store_row rfl 84 (.tmp 7) (.tmp 128) rfl B #[.slice A1' n c1', .slice A2' p1 c2'] rfl rfl 84 #[.slice A1 n c1, .slice A2 p c2] rB2 sizeRS rfl (one_rs _ _ _ _ _ _) ?_))
          go_meet
          exact ⟨rfl, E1, U1, hs1, A1', c1', A2', p1, c2', Hm3.out.put hBw _, HB1.out, hf1⟩
      case rest =>
        clear Hst e1 e2 rB q0 hboth hfew Hrel Hpl Hfew Hf HOP HOL d0 d1 d2 hmi hmt hcs
        obtain ⟨rfl, E, U, hs, A1, c1, A2, p, c2, H, hboth, hfew⟩ := hcut
        have past := hboth.out.past (by omega)
        have hEl := past.len
        have hUl := hboth.out.len
        have hpl : hs.length = p := by obtain ⟨vs, _, h2, _⟩ := H.out.rs.past; exact h2
        have HX : Hid (∀ wx, Below wc.heap.size wc wx → wx.cell? ⟨B, 0, none⟩ = some (.slice A1 n c1) ∧ wx.cell? ⟨B, 1, none⟩ = some (.slice A2 p c2)) := fun wx h => (H.out.same h).cells
        have HM : Hid (∀ w1, Below wc.heap.size wc w1 → Calls Try.prog 44 #[.pointer (some ⟨g, 0, none⟩)] w1 fun e w' => e = .returned (.int .i64 (p : Nat)) ∧ Below wc.heap.size wc w' ∧ w'.cell? ⟨B, 0, none⟩ = some (.slice A1 n c1) ∧ w'.cell? ⟨B, 1, none⟩ = some (.slice A2 p c2)) := fun w1 h => by
          refine (markSets_any (base := w.heap.size) g E U w1 (H.out.same h).sets).mono ?_
          rintro e w' ⟨h1, h2⟩
          rw [h2, ← hpl, ← hUl]
          exact ⟨h1, h, by rw [hUl, hpl]; exact HX.out _ h⟩
        have HC : Hid (∀ w1, Below wc.heap.size wc w1 → Calls Try.prog 43 #[.pointer (some ⟨g, 0, none⟩)] w1 fun e w' => e = .returned (.int .i64 ((n : Int) - (p : Nat))) ∧ Below wc.heap.size wc w' ∧ w'.cell? ⟨B, 0, none⟩ = some (.slice A1 n c1) ∧ w'.cell? ⟨B, 1, none⟩ = some (.slice A2 p c2)) := fun w1 h => by
          refine (countSets_any (base := w.heap.size) g E U w1 (H.out.same h).sets (by omega) (by omega)).mono ?_
          rintro e w' ⟨h1, q, rfl⟩
          have h2 := below_drewN h q
          refine ⟨?_, h2, HX.out _ h2⟩
          rw [h1, hEl, hUl, hpl]
        have HL : Hid (∀ w1, Below wc.heap.size wc w1 → Calls Try.prog 45 #[.pointer (some ⟨g, 0, none⟩)] w1 fun e w' => ∃ v, e = .returned v ∧ Hid (∃ b vs, Lists b w' v vs (rcls (lea E) n n)) ∧ Below wc.heap.size wc w' ∧ Below w1.heap.size w1 w' ∧ w'.cell? ⟨B, 0, none⟩ = some (.slice A1 n c1) ∧ w'.cell? ⟨B, 1, none⟩ = some (.slice A2 p c2)) := fun w1 h => by
          refine (classes_any (base := w.heap.size) g n E U w1 (H.out.same h).sets (past.ok (by omega)) hEl (by omega)).mono ?_
          rintro e w' ⟨v, h1, ⟨vs, h2⟩, h3⟩
          rw [cls_rcls (past.ok (by omega)) (past.low (by omega)) hEl] at h2
          have h4 := h.trans (h3.mono h.size)
          exact ⟨v, h1, ⟨_, vs, h2⟩, h4, h3, HX.out _ h4⟩
        have HR : Hid (∀ w1, Below wc.heap.size wc w1 → Calls Try.prog 50 #[.agg #[.slice A1 n c1, .slice A2 p c2]] w1 fun e w' => ∃ v, e = .returned v ∧ Hid (∃ b vs, Lists b w' v vs (rcls (lea E) n n)) ∧ Below wc.heap.size wc w' ∧ Below w1.heap.size w1 w' ∧ w'.cell? ⟨B, 0, none⟩ = some (.slice A1 n c1) ∧ w'.cell? ⟨B, 1, none⟩ = some (.slice A2 p c2)) := fun w1 h => by
          refine (rclasses_any A1 A2 n c1 p c2 (lea E) (leas E n) w1 (H.out.same h).rs.cur hn (fun i hi => leas_get E n hi) (fun i hi => by have := lea_lt (past.ok (by omega)) (past.low (by omega)) (show i < E.length by omega); omega)).mono ?_
          rintro e w' ⟨v, h1, ⟨vs, h2⟩, h3⟩
          have h4 := h.trans (h3.mono h.size)
          exact ⟨v, h1, ⟨_, vs, h2⟩, h4, h3, HX.out _ h4⟩
        have HE : Hid (∀ v v' w1, Below wc.heap.size wc w1 → Hid (∃ b vs, Lists b w1 v vs (rcls (lea E) n n)) → Hid (∃ b vs, Lists b w1 v' vs (rcls (lea E) n n)) → Calls Try.prog 49 #[v, v'] w1 fun e w' => e = .returned (.bool true) ∧ Below wc.heap.size wc w' ∧ w'.cell? ⟨B, 0, none⟩ = some (.slice A1 n c1) ∧ w'.cell? ⟨B, 1, none⟩ = some (.slice A2 p c2)) := fun v v' w1 h h1 h2 => by
          obtain ⟨b1, vs1, k1⟩ := h1.out
          obtain ⟨b2, vs2, k2⟩ := h2.out
          refine (classesEq_any v v' b1 b2 _ w1 (by have := rcls_len (lea E) n n; omega) ?_ ⟨vs1, k1⟩ ⟨vs2, k2⟩).mono ?_
          · intro l hl
            unfold rcls at hl
            obtain ⟨i, -, rfl⟩ := List.mem_map.1 hl
            have := part_len (lea E) i (n - i)
            omega
          · rintro e w' ⟨h3, q, rfl⟩
            have h4 := below_drewN h q
            exact ⟨h3, h4, HX.out _ h4⟩
        have HK : Hid (∀ v w1 w2, Hid (∃ b vs, Lists b w1 v vs (rcls (lea E) n n)) → Below w1.heap.size w1 w2 → Hid (∃ b vs, Lists b w2 v vs (rcls (lea E) n n))) := fun v w1 w2 h1 h2 => by
          obtain ⟨b1, vs1, k1⟩ := h1.out
          exact ⟨b1, vs1, k1.below h2⟩
        have Hdr := Lib.hid ((Below.refl wc.heap.size wc).drew)
        obtain ⟨cB0, cB1⟩ := HX.out _ (Below.refl _ _)
        have hpn : p ≤ 100 := by omega
        have hw : IntKind.i64.wrap ((n : Int) - (p : Int)) = (n : Int) - (p : Int) := IntWalk.i64_in _ (by omega)
        have g1 : ((p : Int) != (p : Int)) = false := by simp
        have g2 : (((n : Int) - (p : Int)) != ((n : Int) - (p : Int))) = false := by simp
        have HF : Hid (∀ wx, Below wc.heap.size wc wx → SMid w n g B [] E U #[.slice A1 n c1, .slice A2 p c2] A1 A2 p c2 (leas E n) hs wx) := fun wx h => H.out.same h
        have Hfew := Lib.hid hfew
        have hBl := H.out.lt
        clear H past hEl hUl hpl HX hfew
        go_wp2_with fail
        go_region_held3 (fun w' => w'.cell? ⟨B, 0, none⟩ = some (.slice A1 n c1) ∧ w'.cell? ⟨B, 1, none⟩ = some (.slice A2 p c2)) (first | exact ⟨cB0, cB1⟩ | exact cb5 | exact cb4 | exact cb3 | exact cb2 | exact cb1)
          (first
            | (go_at_call 44; (with_reducible refine (HM.out _ Hdr.out).mono ?_); rintro e w1 ⟨rfl, hb1, cb1⟩)
            | (go_at_call 43; (with_reducible refine (HC.out _ hb1).mono ?_); rintro e w2 ⟨rfl, hb2, cb2⟩)
            | (go_at_call 45; (with_reducible refine (HL.out _ hb2).mono ?_); rintro e w3 ⟨v1, rfl, hl1, hb3, hs3, cb3⟩)
            | (go_at_call 45; (with_reducible refine (HL.out _ hb3).mono ?_); rintro e w4 ⟨v1, rfl, hl1, hb4, hs4, cb4⟩; have hl2 := HK.out _ _ _ hl2 hs4)
            | (go_at_call 50; (with_reducible refine (HR.out _ hb2).mono ?_); rintro e w3 ⟨v2, rfl, hl2, hb3, hs3, cb3⟩)
            | (go_at_call 50; (with_reducible refine (HR.out _ hb3).mono ?_); rintro e w4 ⟨v2, rfl, hl2, hb4, hs4, cb4⟩; have hl1 := HK.out _ _ _ hl1 hs4)
            | (go_at_call 49; (with_reducible refine (HE.out v1 v2 _ hb4 hl1 hl2).mono ?_); rintro e w5 ⟨rfl, hb5, cb5⟩))
        all_goals
          have Hfin := Lib.hid (HF.out _ hb5)
          clear hb1 hb2 hb3 hb4 hb5 cb1 cb2 cb3 cb4 cb5 hl1 hl2 hs3 hs4 HM HC HL HR HE HK HF Hdr cB0 cB1
          go_wp2
          go_light
          exact ⟨⟨k + 1, E, U, hs, A1, c1, A2, p, c2, by omega, by go_num, Hfin.out, hboth.out, Hfew.out⟩, by simp [intOf]; omega⟩
    · obtain rfl : k = m := by omega
      have Hb := Lib.hid hrel.out.below
      clear hrel hboth
      go_wp2_with fail
      refine (awake12_any wr).mono ?_
      rintro e w2 ⟨rfl, hb2⟩
      have Hb2 := Lib.hid (Hb.out.trans (hb2.mono Hb.out.size))
      clear hb2
      go_wp2
      go_ret
      exact ⟨rfl, Hb2.out⟩
theorem law_sets (a0 : Int) (A : Option Addr) (m hc : Nat) (ts : List SoT) (w : World) (w0 : (Lit.int .i64 a0).wf = true) (hm : m ≤ maxLen) (hq : ∀ t ∈ ts, SoOk t) (hr : Rd w w.heap.size 3 A m (ts.flatMap soV)) :
    Calls Try.prog 8 #[.int .i64 a0, .slice A m hc] w fun e w' => e = .returned (.bool true) ∧ Below w.heap.size w w' := by
  obtain ⟨h1, h2⟩ := i64_ofS w0
  by_cases hb : (60 < a0 ∧ a0 ≤ 10000) ∨ 80 < m
  · exact law_sets_big a0 A m hc w hm hb
  · by_cases hn : a0 < 0 ∨ 10000 < a0
    · exact law_sets_none a0 A m hc w (by omega) hn h1 h2
    · obtain ⟨n, rfl⟩ : ∃ n : Nat, a0 = (n : Int) := ⟨a0.toNat, by omega⟩
      exact law_sets_some n A m hc ts w (by omega) (by omega) hq hr
end Go.Proofs.Ytimgnmlcgnibhaa.Tok
