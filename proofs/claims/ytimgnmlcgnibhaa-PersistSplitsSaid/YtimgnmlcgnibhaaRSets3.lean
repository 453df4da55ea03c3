/- The reference's sets: Undone. -/
import Derived.Test.YtimgnmlcgnibhaaRSets2
import Derived.Deep.RegionLaw
import Derived.Deep.DeepCutAuto
import Derived.Deep.DrawnRows
namespace Go.Proofs.Ytimgnmlcgnibhaa.Tok
open Go.RowKit Go.Proofs.Ytimgnmlcgnibhaa

theorem slice_form {w : World} {base e size n : Nat} {v : Value} {xs : List Value} (h : w.ownsRow base e size v n xs) : ∃ A c, v = .slice A n c := by
  rcases h.2 with ⟨h1, h2⟩ | ⟨g', cap', cur', h1, _⟩
  · exact ⟨none, 0, by rw [h1, h2]⟩
  · exact ⟨_, _, h1⟩
/-- append of whatever is read, at a step of a region that draws. -/
theorem step_append_rd {P : Program} (w : World) {ops : Array Oper} {o : Oper} {a : Act} {K : Act → World → Prop} {Q : Exit → Act → World → Prop} {E : Prop} (hgd : o.guard = none) (s x : Operand) (t : TypeId)
    (ho : o.op = .call { callee := .builtin .append, args := #[s, x], argTypes := #[t, t] })
    (base : Nat) (e : TypeId) (i : TypeInfo) (z : Value) (size bytes : Nat) (ht : P.underlying t = some (.slice e)) (hi : P.info? e = some i) (hz : i.zero = some z)
    (hsize : i.size = size) (hby : i.bytes = bytes) (hzs : z.cells.size = size) (hsz : 0 < size)
    (v : Value) (n : Nat) (xs : List Value) (hs : a.eval s = v) (hown : w.ownsRow base e size v n xs)
    (B : Nat) (A : Option Addr) (m c : Nat) (news : List Value) (hx : a.eval x = .slice A m c) (hr : Rd w B size A m news) (h1 : ∀ u ∈ news, u.oneCell' = true)
    (h63 : n + m ≤ maxLen) (hbytes : (n + m) * bytes ≤ 140737488355328) (hbase : base ≤ w.heap.size)
    (h : ∀ A' c' w', w'.ownsRow base e size (.slice A' (n + m) c') (n + m) (xs ++ news) → w.grownBy w' v.ownBlock → K (a.put o.dst (.slice A' (n + m) c')) w') :
    if Region.wanted o (yielded ops a.tmps) = true then Oper.wp P o a w K Q else E := by
  have hw : Region.wanted o (yielded ops a.tmps) = true := by simp [Region.wanted, hgd]
  rw [if_pos hw]
  obtain ⟨v', w', hrun, h2, h3⟩ := app_rd (P := P) w base t o.type e i z size bytes ht hi hz hsize hby hzs hsz v n xs hown B A m c news hr h1 h63 hbytes hbase
  obtain ⟨A', c', rfl⟩ := slice_form h2
  unfold Oper.wp execOp
  simp only [ho, resolve, invoke, builtin, Sem.run_bind, Sem.run_pure, Result.andThen_ok, List.map_toArray, List.map_cons, List.map_nil, hs, hx, hrun]
  exact h _ _ _ h2 h3
theorem past_one {w : World} {hs : List (List Nat)} {vs : List Value} (hl : hs.length = vs.length) (h : ∀ (i : Nat) (v : Value) (l : List Nat), vs[i]? = some v → hs[i]? = some l → ∃ A c, v = .slice A l.length c ∧ RdT w 3 A l.length (nats l)) : ∀ u ∈ vs, u.oneCell' = true := by
  intro u hu
  obtain ⟨i, hi, rfl⟩ := List.mem_iff_getElem.1 hu
  obtain ⟨A, c, e, _⟩ := h i _ _ (List.getElem?_eq_getElem hi) (List.getElem?_eq_getElem (by rw [hl]; exact hi))
  rw [e]
  rfl
set_option maxHeartbeats 3200000 in
set_option maxRecDepth 8000 in
theorem rundone_same (A1 A2 : Option Addr) (n c1 p c2 : Nat) (k : Int) (r : Int) (w : World) (hp : p ≤ 10000) (hk : (k = p ∧ r = 0) ∨ ((k < 0 ∨ (p : Int) < k) ∧ r = 3)) :
    Calls Try.prog 48 #[.agg #[.slice A1 n c1, .slice A2 p c2], .int .i64 k] w fun e w' => e = .returned (.tuple #[.agg #[.slice A1 n c1, .slice A2 p c2], .int .i64 r]) ∧ Below w.heap.size w w' := by
  have HB : Hid (∀ o o' cs, Below w.heap.size w (((w.alloc o).alloc o').setRow (w.heap.size + 1) cs)) := fun o o' cs => setRow_below (((Below.refl _ _).alloc (Nat.le_refl _) _).alloc (by simp) _) (by omega) _
  have HB2 : Hid (∀ o o', Below w.heap.size w ((w.alloc o).alloc o')) := fun o o' => ((Below.refl _ _).alloc (Nat.le_refl _) _).alloc (by simp) _
  have HR : Hid (∀ o o', ((w.alloc o).alloc o').heap[w.heap.size + 1]? = some o') := fun o o' => ptr_alloc_2 _ _ _
  have h3 : (k < 0 ∧ r = 3) ∨ (¬ k < 0 ∧ (p : Int) < k ∧ r = 3) ∨ (k = p ∧ r = 0) := by omega
  clear hk
  rcases h3 with ⟨h3, rfl⟩ | ⟨h3, h4, rfl⟩ | ⟨rfl, rfl⟩
  case' inl => have g1 : decide (k < 0) = true := decide_eq_true h3
  case' inr.inl => have g1 : decide (k < 0) = false := decide_eq_false h3
  case' inr.inl => have g2 : decide ((p : Int) < k) = true := decide_eq_true h4
  case' inr.inr => have g1 : decide ((p : Int) < 0) = false := decide_eq_false (by omega)
  case' inr.inr => have g2 : decide (p < p) = false := decide_eq_false (by omega)
  case' inr.inr => have g3 : ((p : Int) == (p : Int)) = true := by rw [beq_iff_eq]
  case' inr.inr => have g4 : (p == p) = true := by rw [beq_iff_eq]
  iterate 2
    go_enter Try.func48, Try.ntmps48
    go_wp2_with (refine wpList_store_row rfl 84 (.tmp 4) (.tmp 15) rfl (w.heap.size + 1) #[.slice A1 n c1, .slice A2 p c2] rfl rfl 84 #[.slice none 0 0, .slice none 0 0] (HR.out _ _) sizeRS rfl (one_rs _ _ _ _ _ _) ?_)
    (try simp only [Exit.inBlock, Exit.then])
    refine bodyPost_ret (results_row_tmp' rfl _ _ (w.heap.size + 1) 84 #[.slice A1 n c1, .slice A2 p c2] (0, 0) _ rfl (by first | exact HR.out _ _ | exact setRow_heap _ _ _ _ _ _ (HR.out _ _)) Try.underlying84 rfl sizeRS) rfl ?_
    exact ⟨rfl, by first | exact HB2.out _ _ | exact HB.out _ _ _⟩
  go_enter Try.func48, Try.ntmps48
  go_wp2_with (refine wpList_store_row rfl 84 (.tmp 4) (.tmp 21) rfl (w.heap.size + 1) #[.slice A1 n c1, .slice A2 p c2] rfl rfl 84 #[.slice none 0 0, .slice none 0 0] (HR.out _ _) sizeRS rfl (one_rs _ _ _ _ _ _) ?_)
  (try simp only [Exit.inBlock, Exit.then])
  refine bodyPost_ret (results_row_tmp' rfl _ _ (w.heap.size + 1) 84 #[.slice A1 n c1, .slice A2 p c2] (0, 0) _ rfl (by first | exact HR.out _ _ | exact setRow_heap _ _ _ _ _ _ (HR.out _ _)) Try.underlying84 rfl sizeRS) rfl ?_
  exact ⟨rfl, by first | exact HB2.out _ _ | exact HB.out _ _ _⟩
set_option maxHeartbeats 3200000 in
set_option maxRecDepth 8000 in
theorem rundone_back (A1 A2 : Option Addr) (n c1 p c2 k : Nat) (cur l : List Nat) (hs : List (List Nat)) (w : World) (h : RS w A1 n A2 p c2 cur hs) (hp : p ≤ 1000) (hk : k < p) (hl : hs[k]? = some l) :
    Calls Try.prog 48 #[.agg #[.slice A1 n c1, .slice A2 p c2], .int .i64 (k : Nat)] w fun e w' => ∃ (A1' A2' : Option Addr) (c1' c2' : Nat), e = .returned (.tuple #[.agg #[.slice A1' l.length c1', .slice A2' k c2'], .int .i64 0]) ∧ Hid (RS w' A1' l.length A2' k c2' l (hs.take k)) ∧ Below w.heap.size w w' := by
  obtain ⟨i0, hi0, iz0, iz1, iz2⟩ := info_parts infoSl12
  obtain ⟨vs, hrd, hpl, hvs⟩ := h.past
  have hcap := h.cap
  have hvl : vs.length = p := hrd.1
  obtain ⟨x, hx⟩ : ∃ x, vs[k]? = some x := ⟨_, List.getElem?_eq_getElem (by omega)⟩
  obtain ⟨Ak, ck, rfl, hrk⟩ := hvs k x l hx hl
  obtain ⟨b2, off2, rfl, hb2, hc2⟩ := hrd.rd.pos (by omega)
  have hone : Hid (∀ u ∈ vs.take k, u.oneCell' = true) := fun u hu => past_one (by omega) hvs u (List.mem_of_mem_take hu)
  have hnews : Hid (∀ w1, Below w.heap.size w w1 → Rd w1 w1.heap.size 1 (some ⟨b2, off2, none⟩) k (vs.take k)) := fun w1 hb => (((hrd.take (show k ≤ p by omega)).below hb)).rd
  have ck0 := hc2 k _ hx
  have Hvs := Lib.hid hvs
  have Hrd := Lib.hid hrd
  have Hrk := Lib.hid hrk
  have Hx := Lib.hid hx
  have Hl := Lib.hid hl
  have Hpl := Lib.hid hpl
  obtain ⟨m, hm⟩ : ∃ m, m = l.length := ⟨_, rfl⟩
  rw [← hm] at ck0 Hrk Hx ⊢
  have Hm := Lib.hid hm
  clear hvs hrd hrk hx hl hpl hc2 h hm hvl
  have g1 : decide ((k : Int) < 0) = false := decide_eq_false (by omega)
  have g2 : decide (p < k) = false := decide_eq_false (by omega)
  have g3 : ((k : Int) == (p : Int)) = false := by rw [beq_eq_false_iff_ne]; omega
  have g4 : (k == p) = false := by rw [beq_eq_false_iff_ne]; omega
  go_enter Try.func48, Try.ntmps48
  go_wp2
  generalize hwq : World.alloc (World.alloc _ _) _ = wq
  have hbq : Below w.heap.size w wq := by subst hwq; exact ((Below.refl _ _).alloc (Nat.le_refl _) _).alloc (by simp) _
  have hsq : wq.heap.size = w.heap.size + 2 := by subst hwq; simp
  have r0 : wq.heap[w.heap.size]? = some (.cells #[.slice A1 n c1, .slice (some ⟨b2, off2, none⟩) p c2] 84 (0, 0)) := by
    subst hwq
    rw [heap_alloc_old _ _ (by simp)]
    exact heap_alloc_new _ _
  have r1 : wq.heap[w.heap.size + 1]? = some (.cells #[.slice none 0 0, .slice none 0 0] 84 (0, 0)) := by subst hwq; exact ptr_alloc_2 _ _ _
  clear hwq
  have c01 := (cell_of_row _ _ 1 _ _ _ r0).trans (rfl : _ = some (Value.slice (some ⟨b2, off2, none⟩) p c2))
  have ckq := (hbq.cell (p := ⟨b2, off2 + k, none⟩) (by show b2 < _; omega)).trans ck0
  have R0 := Lib.hid r0
  have R1 := Lib.hid r1
  have HBq := Lib.hid hbq
  have Hsq := Lib.hid hsq
  have Ck0 := Lib.hid ck0
  clear r0 r1 ck0
  have hown0 : Hid ((wq.alloc (.cells #[] 50)).ownsRow w.heap.size 50 1 (.slice (some ⟨wq.heap.size, 0, none⟩) 0 0) 0 []) :=
    World.ownsRow_lit (base := w.heap.size) (e := 50) (size := 1) wq #[] 0 hbq.size (by decide) (by simp)
  have g63 : 0 + k ≤ maxLen := by simp only [maxLen]; omega
  have gby : (0 + k) * 24 ≤ 140737488355328 := by omega
  have HN : Hid (∀ o : Obj, Rd (wq.alloc o).drew (wq.alloc o).drew.heap.size 1 (some ⟨b2, off2, none⟩) k (vs.take k)) := fun o => hnews.out _ (hbq.alloc hbq.size o).drew
  have HK : Hid (∀ o w2 A' c', ((wq.alloc o).drew).grownBy w2 (some wq.heap.size) → w2.ownsRow w.heap.size 50 1 (.slice A' (0 + k) c') (0 + k) ([] ++ vs.take k) →
      w2.cell? ⟨w.heap.size, 1, none⟩ = some (.slice (some ⟨b2, off2, none⟩) p c2) ∧ w2.cell? ⟨b2, off2 + k, none⟩ = some (.slice Ak m ck) ∧ w2.cell? ⟨w.heap.size + 1, 0, none⟩ = some (.slice none 0 0) ∧ w2.cell? ⟨w.heap.size + 1, 1, none⟩ = some (.slice none 0 0) ∧ w2.frozen? ⟨w.heap.size + 1, 0, none⟩ = false ∧ w2.frozen? ⟨w.heap.size + 1, 1, none⟩ = false ∧
      Hid (((w2.setCell ⟨w.heap.size + 1, 0, none⟩ (.slice Ak m ck)).setCell ⟨w.heap.size + 1, 1, none⟩ (.slice A' k c')).heap[w.heap.size + 1]? = some (.cells #[.slice Ak m ck, .slice A' k c'] 84 (0, 0))) ∧
      Hid (RS ((w2.setCell ⟨w.heap.size + 1, 0, none⟩ (.slice Ak m ck)).setCell ⟨w.heap.size + 1, 1, none⟩ (.slice A' k c')) Ak m A' k c' l (hs.take k)) ∧
      Hid (Below w.heap.size w ((w2.setCell ⟨w.heap.size + 1, 0, none⟩ (.slice Ak m ck)).setCell ⟨w.heap.size + 1, 1, none⟩ (.slice A' k c')))) := fun o w2 A' c' hg ho => by
    have hs' := Hsq.out
    rw [Nat.zero_add, List.nil_append] at ho
    have q0 : w2.heap[w.heap.size]? = _ := (hg.block w.heap.size (by show _ < (wq.alloc o).heap.size; simp; omega) (by intro e; injection e with e; omega)).trans ((heap_alloc_old wq o (by omega)).trans R0.out)
    have q1 : w2.heap[w.heap.size + 1]? = _ := (hg.block (w.heap.size + 1) (by show _ < (wq.alloc o).heap.size; simp; omega) (by intro e; injection e with e; omega)).trans ((heap_alloc_old wq o (by omega)).trans R1.out)
    have hb : Below w.heap.size w w2 := ((HBq.out.alloc HBq.out.size o).drew).grown hg (by show _ ≤ (wq.alloc o).heap.size; simp; omega) (fun k hk => by injection hk with hk; omega)
    have hb4 : Below w.heap.size w ((w2.setCell ⟨w.heap.size + 1, 0, none⟩ (.slice Ak m ck)).setCell ⟨w.heap.size + 1, 1, none⟩ (.slice A' k c')) := (hb.setCell (by show _ ≤ _ + 1; omega) _).setCell (by show _ ≤ _ + 1; omega) _
    have ho1 := own_setCell_other ho (a := ⟨w.heap.size + 1, 0, none⟩) (own_apartS ho q1 (by decide)) (.slice Ak m ck)
    have q2 := heap_setCell_same w2 _ 0 _ _ (.slice Ak m ck) q1
    have ho2 := own_setCell_other ho1 (a := ⟨w.heap.size + 1, 1, none⟩) (own_apartS ho1 q2 (by decide)) (.slice A' k c')
    refine ⟨(cell_of_row _ _ 1 _ _ _ q0).trans rfl, (hb.cell (p := ⟨b2, off2 + k, none⟩) (by show b2 < _; omega)).trans Ck0.out, (cell_of_row _ _ 0 _ _ _ q1).trans rfl, (cell_of_row _ _ 1 _ _ _ q1).trans rfl, frozen_of_row _ _ _ _ _ q1, frozen_of_row _ _ _ _ _ q1, ?_, ?_, hb4⟩
    · exact heap_setCell_same _ _ 1 _ _ _ q2
    · refine ⟨Hrk.out.below hb4, ⟨vs.take k, RdT.own ho2, ?_, fun i v l' h1 h2 => ?_⟩, ?_⟩
      · rw [List.length_take]; have := Hpl.out; omega
      · rw [List.getElem?_take] at h1 h2
        split at h1
        · rename_i hik
          rw [if_pos hik] at h2
          obtain ⟨A, c, e, hr⟩ := Hvs.out i v l' h1 h2
          exact ⟨A, c, e, hr.below hb4⟩
        · cases h1
      · rcases ho.2 with ⟨h1, h2⟩ | ⟨g', cap, cur', h1, _, _, h2, _⟩
        · omega
        · injection h1 with _ _ h1; omega
  have hl0 : w.heap.size < wq.heap.size := by omega
  have hl1 : w.heap.size + 1 < wq.heap.size := by omega
  have hl2 : b2 < wq.heap.size := by omega
  have hcc : (0 : Int) ≤ (k : Int) ∧ (k : Int) ≤ (c2 : Int) := by omega
  have hci : (0 : Int) ≤ (k : Int) ∧ (k : Int) < (p : Int) := by omega
  have hbase : Hid (∀ o : Obj, w.heap.size ≤ (wq.alloc o).drew.heap.size) := fun o => by show _ ≤ (wq.alloc o).heap.size; simp; omega
  clear hbq hsq
  go_region_law
    ((refine step_append_rd _ (by rfl) _ _ _ (by rfl) w.heap.size 50 i0 _ 1 24 Try.underlying82 hi0 iz0 iz1 iz2 rfl (by omega) (.slice (some ⟨wq.heap.size, 0, none⟩) 0 0) 0 [] (by rfl) (hown0.out.drew) _ (some ⟨b2, off2, none⟩) k c2 (vs.take k) (by rfl) (HN.out _) hone.out g63 gby (hbase.out _) ?_; intro A' c' w2 hown2 hgrow2; obtain ⟨k0, k1, k2, k3, k4, k5, k6, k7, k8⟩ := HK.out _ _ _ _ hgrow2 hown2; clear hgrow2 hown2))
  all_goals
    go_wp2
    (try simp only [Exit.inBlock, Exit.then])
    refine bodyPost_ret (results_row_tmp' rfl _ _ (w.heap.size + 1) 84 #[.slice Ak m ck, .slice A' k c'] (0, 0) _ rfl k6.out Try.underlying84 rfl sizeRS) rfl ?_
    exact ⟨_, _, _, _, rfl, k7, k8.out⟩
end Go.Proofs.Ytimgnmlcgnibhaa.Tok
