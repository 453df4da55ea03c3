/- All: the iterator over a tree's entries. -/
import Derived.Test.YtdffgkhlkbaecaaNodes
namespace Go.Proofs.Ytdffgkhlkbaecaa.Tok
open Go.RowKit Go.Proofs.Ytdffgkhlkbaecaa
attribute [local go_sem] Oper.semAt_some

theorem yield_any {m : Nat} (m' : Nat) {P : Program} {l : Nat} {args : Array Value} {W : World} {R : Ending → World → Prop} (h : YieldAt Fence.wide m P l args W R) : YieldAt Fence.wide m' P l args W R := by
  obtain ⟨fn, tmps, assign, body, hy, h1, h2⟩ := h
  exact ⟨fn, tmps, assign, body, hy, h1, fun c cs _ => h2 c cs (room_wide _)⟩
theorem nodes_in (n : Nat) (p : Option Addr) (w : World) : CallsIn Fence.wide n Try.prog 64 #[.pointer p] w fun e w' => e = .returned (.func (.func 66) #[] #[.pointer (some ⟨w.heap.size, 0, none⟩)]) ∧ w' = w.alloc (.cells #[.pointer p] 25) := by
  refine callsIn_of_wp Try.func64 rfl trivial ?_ rfl
  simp only [Try.ntmps64, List.size_toArray, List.length_cons, List.length_nil, Nat.reduceAdd, Nat.reduceSub, Array.replicate_succ, Array.replicate_zero, List.push_toArray, List.append_toArray, List.nil_append, List.cons_append]
  gi_wp2
  go_ret
  exact ⟨rfl, rfl⟩
theorem nodes_gives (n : Nat) (hn : 1 ≤ n) (p : Option Addr) (t : Tr ByteArray) (w w1 : World) (hI : Is Value.string 98 w p t) (hts : t.size ≤ 1000000) (hb : Below w.heap.size w w1) :
    Gives 25 Fence.wide n Try.prog 66 #[.pointer (some ⟨w1.heap.size, 0, none⟩)] encN (KpN w.heap.size) (nodesOf w t p) (w1.alloc (.cells #[.pointer p] 25)) := by
  intro l J W hW hJ hY h0
  have hW1 : Below w.heap.size w W := (hb.alloc hb.size _).trans (hW.mono (by have := hb.size; simp; omega))
  exact nodes1_in Fence.wide n trivial rfl hn l w1.heap.size p t J w W hI hts hW1 hJ ((hW.cell (p := ⟨w1.heap.size, 0, none⟩) (by simp)).trans (by rw [cell_of_row _ _ _ _ _ _ (heap_alloc_new w1 _)]; rfl)) hY h0
theorem KpN.putLoop {n₀ i : Nat} {W : World} {r r' : Loop} (h : W.heap[i]? = some (.loop r)) (hi : n₀ ≤ i) : KpN n₀ W (W.putObj i (.loop r')) :=
  ⟨(Below.refl n₀ W).grown (grownBy_putObj' W i _) (by have := (Array.getElem?_eq_some_iff.1 h).1; omega) (fun k e => by cases e; exact hi), fun k cs fr hk => by
    rw [World.putObj_heap_other (fun e => by rw [e, h] at hk; cases hk)]
    exact hk⟩
theorem KpN.drew {n₀ : Nat} (W : World) : KpN n₀ W W.drew := ⟨(Below.refl _ _).drew, fun _ _ _ h => h⟩
theorem grown_drew (W : World) : W.grownBy W.drew none := ⟨rfl, rfl, rfl, Nat.le_refl _, fun _ _ _ => rfl⟩
def encE (x : ByteArray × Int) : Array Value := #[.string x.1, .int .i64 x.2]
/-- No operation is a defer statement. -/
def noDefer (ops : Array Oper) : Bool := ops.all fun o => match o.op with | .defer _ => false | _ => true
theorem noDefer_spec {ops : Array Oper} (h : noDefer ops = true) {i : Nat} {o : Oper} (hi : ops[i]? = some o) : ∀ c, o.op ≠ .defer c := by
  intro c hc
  obtain ⟨hl, he⟩ := Array.getElem?_eq_some_iff.1 hi
  have h2 := (Array.all_eq_true.1 h) i hl
  rw [he, hc] at h2
  cases h2
/-- A region without defer statements goes in a round as it goes outside. -/
theorem op_round {F : Fence} {n : Nat} {P : Program} {ops : Array Oper} {Q : Exit → Act → World → Prop} (l : Nat) (hro : F.round = none) (hd : noDefer ops = true) {i : Nat} {K : Act → World → Prop} {a : Act} {w : World} (h : wpOpIn F n P ops Q i K a w) : wpOpIn (F.inRound l) n P ops Q i K a w := by
  unfold wpOpIn at h ⊢
  cases ho : ops[i]? with
  | none => rw [ho] at h; exact h
  | some o =>
    rw [ho] at h
    simp only at h ⊢
    split
    · rename_i hw
      rw [if_pos hw] at h
      refine ⟨h.1, ?_⟩
      have h2 := h.2
      rw [hro, Oper.semAt_none] at h2
      rw [show (F.inRound l).round = some l from rfl, Oper.semAt_some l _ _ (noDefer_spec hd ho)]
      exact h2
    · rename_i hw
      rw [if_neg hw] at h
      exact h
theorem any_round {n : Nat} {P : Program} {md : Region.Mode} {ops : Array Oper} {Q : Exit → Act → World → Prop} (l : Nat) (hd : noDefer ops = true) : ∀ (fuel : Nat) (listed : Array Bool) (a : Act) (w : World), wpAnyIn Fence.wide n P md ops Q fuel listed a w → wpAnyIn (Fence.wide.inRound l) n P md ops Q fuel listed a w
  | 0, _, _, _, h => h
  | fuel + 1, _, _, _, h => ⟨h.1, fun i hi => op_round l rfl hd (wpOpIn_mono (fun a' w' h' => any_round l hd fuel _ a' w' h') (h.2 i hi))⟩
/-- What a round of All keeps: what a round of nodes keeps; boxes of functions; what is no cells, from D on. -/
structure KpA (n₀ D : Nat) (W W' : World) : Prop where
  nd : KpN n₀ W W'
  box : ∀ (i : Nat) (cs : Array Value) (fr : Nat × Nat), W.heap[i]? = some (.cells cs 119 fr) → W'.heap[i]? = some (.cells cs 119 fr)
  oth : ∀ (k : Nat) (o : Obj), D ≤ k → W.heap[k]? = some o → o.isCells = false → W'.heap[k]? = some o
  size : W.heap.size ≤ W'.heap.size
theorem KpA.trans {n₀ D : Nat} {A B C : World} (h : KpA n₀ D A B) (k : KpA n₀ D B C) : KpA n₀ D A C :=
  ⟨h.nd.trans k.nd, fun i cs fr e => k.box i cs fr (h.box i cs fr e), fun i o hi e ho => k.oth i o hi (h.oth i o hi e ho) ho, Nat.le_trans h.size k.size⟩
theorem KpA.putLoop {n₀ D i : Nat} {W : World} {r r' : Loop} (h : W.heap[i]? = some (.loop r)) (hi : n₀ ≤ i) (hD : i < D) : KpA n₀ D W (W.putObj i (.loop r')) :=
  ⟨KpN.putLoop h hi, fun k cs fr hk => by
    rw [World.putObj_heap_other (fun e => by rw [e, h] at hk; cases hk)]
    exact hk, fun k o hk ho _ => by
    rw [World.putObj_heap_other (by omega)]
    exact ho, by simp⟩
/-- A box lies as it lay. -/
theorem box_turns {T T' : TypeId} {B b : Nat} {W W' : World} {row : Option Nat} {cs : Array Value} {fr : Nat × Nat} (h : W.heap[b]? = some (.cells cs T' fr)) (hg : W.grownBy W' row) (ht : Turns T B W row) (hT : T ≠ T') : W'.heap[b]? = some (.cells cs T' fr) := by
  refine (hg.block b (Array.getElem?_eq_some_iff.1 h).1 fun e => ?_).trans h
  obtain ⟨_, o, ho, hc⟩ := ht b e.symm
  rw [h] at ho
  injection ho with ho
  subst ho
  rcases hc with hc | ⟨cs', fr', hc⟩
  · cases hc
  · injection hc with _ hc
    exact hT hc.symm
set_option maxHeartbeats 3200000 in
set_option maxRecDepth 8000 in
theorem all1_in (n : Nat) (hn : 3 ≤ n) (l Ba D : Nat) (p : Option Addr) (t : Tr ByteArray) (J : List (ByteArray × Int) → World → Prop) (w W : World)
    (hI : Is Value.string 98 w p t) (hts : t.size ≤ 1000000) (hW : Below w.heap.size w W) (hJ : Abide 25 W.heap.size J)
    (hDW : D ≤ W.heap.size + 2) (hBa2 : Ba < W.heap.size) (cB : W.cell? ⟨Ba, 0, none⟩ = some (.pointer p))
    (hY : ∀ pre x W1, J pre W1 → pre ++ [x] <+: t.ents → YieldAt Fence.wide (n - 1) Try.prog l (encE x) W1 fun e W' => e = .returned (.bool true) ∧ J (pre ++ [x]) W' ∧ KpA w.heap.size D W1 W')
    (h0 : J [] W) :
    CallsIn Fence.wide n Try.prog 63 #[.func (.yield l) #[] #[], .pointer (some ⟨Ba, 0, none⟩)] W fun e W' => (∃ v, e = .returned v) ∧ J t.ents W' := by
  have h1 : 1 ≤ n := by omega
  have HI := Lib.hid hI
  have HW := Lib.hid hW
  have HJ := Lib.hid hJ
  have HY := Lib.hid hY
  have H0 := Lib.hid h0
  have hBW : w.heap.size ≤ W.heap.size := hW.size
  clear hI hW hJ hY h0
  refine callsIn_of_wp_marks Try.func63 rfl trivial ?_ rfl
  simp only [Try.ntmps63, List.size_toArray, List.length_cons, List.length_nil, Nat.reduceAdd, Nat.reduceSub, Array.replicate_succ, Array.replicate_zero, List.push_toArray, List.append_toArray, List.nil_append, List.cons_append]
  gi_wp2_with fail
  refine ⟨trivial, (nodes_in (n - 1) p _).mono ?_⟩
  rintro e w' ⟨rfl, rfl⟩
  gi_wp2
  have hb161 : Below w.heap.size w (W.alloc (.cells #[.func (.yield l) #[] #[]] 119)) := HW.out.alloc HW.out.size _
  have hG := nodes_gives (n - 1) (by omega) p t w _ HI.out hts hb161
  rw [World.size_alloc] at hG
  refine wp_range2 25 rfl h1 (gf := 66) (lb := #[.pointer (some ⟨W.heap.size + 1, 0, none⟩)]) rfl trivial (enters_of Try.func66 (by kernel_rfl) rfl) hG
    KpN.trans (fun W2 r r' h => KpN.putLoop h (by simp; omega)) (Below.refl _ _) (fun _ => rfl)
    (fun pre W' => J (pre.map (·.2)) W' ∧ W'.heap[W.heap.size]? = some (.cells #[.func (.yield l) #[] #[]] 119 (0, 0)) ∧ Below w.heap.size w W') ?_ ?_
    (fun x => { tmps := #[.func (.yield l) #[] #[], .pointer (some ⟨Ba, 0, none⟩), .pointer (some ⟨W.heap.size, 0, none⟩), .pointer (some ⟨x.1, 0, none⟩), .pointer (some ⟨Ba, 0, none⟩), .pointer p, .func (.func 66) #[] #[.pointer (some ⟨W.heap.size + 1, 0, none⟩)], .pointer (some ⟨x.1, 0, none⟩), undef, undef, undef, undef, undef, undef, undef, undef, undef, undef, undef], defers := [] }) ?_ ?_ ?_
  · rintro pre A B row ⟨hj, hbx, hbl⟩ hg ht
    refine ⟨HJ.out _ _ _ _ hj hg (ht.mono (by simp; omega)), box_turns hbx hg ht (by decide), hbl.grown hg hbl.size fun k e => ?_⟩
    have := (ht k e).1
    simp at this
    omega
  · have hj0 := HJ.out.alloc (HJ.out.alloc H0.out (.cells #[.func (.yield l) #[] #[]] 119)) (.cells #[.pointer p] 25)
    refine ⟨hj0, ?_, hb161.alloc (by simp; omega) _⟩
    exact (heap_alloc_old (W.alloc (.cells #[.func (.yield l) #[] #[]] 119)) (.cells #[.pointer p] 25) W.heap.size (by simp)).trans (heap_alloc_new W _)
  · intro l' x W2 K hK
    dsimp only [encN]
    gi_wp2
    exact hK
  · rintro l' pre x W3 ⟨hj, hbx, hbl⟩ hpre
    have hmem : x ∈ nodesOf w t p := hpre.subset (by simp)
    obtain ⟨x1, x2, x3⟩ := nodes_at HI.out x hmem
    have hz3 := hbl.size
    have d0 := (hbl.cell (p := ⟨x.1, 0, none⟩) x1).trans x2
    have d1 := (hbl.cell (p := ⟨x.1, 1, none⟩) x1).trans x3
    have hx3 : x.1 < W3.heap.size := by omega
    have cb := (cell_of_row _ _ 0 _ _ _ hbx).trans (rfl : _ = some (Value.func (.yield l) #[] #[]))
    have hpre2 : pre.map (·.2) ++ [x.2] <+: t.ents := by
      rw [← nodes_ents HI.out]
      have := List.IsPrefix.map (·.2) hpre
      simpa using this
    have hj' := HJ.out _ _ _ _ hj (grown_drew W3) (Turns.none _ _ _)
    obtain ⟨fn, tmps, assign, body, hy, hR⟩ := yield_any (n - 1 - 1 - 1) (HY.out _ _ _ hj' hpre2)
    have hblt : W.heap.size < W3.heap.size := (Array.getElem?_eq_some_iff.1 hbx).1
    have hxl := hx3
    obtain ⟨xb, xk, xv⟩ := x
    simp only at hxl
    simp only at d0 d1 hx3
    dsimp only [encE] at hy
    have HP := Lib.hid hpre2
    clear hmem x1 x2 x3 hpre hpre2 hj hj'
    have hmix : Try.prog.follows .mixedOrders = true := by kernel_rfl
    have hle1 : 1 ≤ n - 1 - 1 := by omega
    have hR2 : RoundIn (Fence.wide.inRound l') (n - 1 - 1 - 1) Try.prog l fn tmps assign body W3.drew _ := hR
    have HF : Hid (∀ W4, J (pre.map (·.2) ++ [(xk, xv)]) W4 → KpA w.heap.size D W3.drew W4 → KeepsFrom ((W.alloc (.cells #[.func (.yield l) #[] #[]] 119)).alloc (.cells #[.pointer p] 25)).heap.size W3 W4 ∧ KpN w.heap.size W3 W4 ∧
        (J ((pre ++ [(xb, xk, xv)]).map (·.2)) W4 ∧ W4.heap[W.heap.size]? = some (.cells #[.func (.yield l) #[] #[]] 119 (0, 0)) ∧ Below w.heap.size w W4)) := fun W4 k1 k2 => by
      refine ⟨⟨k2.size, fun k o hk ho hc => k2.oth k o (by simp at hk; omega) ho hc⟩, (KpN.drew W3).trans k2.nd, by simpa using k1, k2.box _ _ _ hbx, hbl.trans ((Below.refl _ _).drew.trans k2.nd.below)⟩
    clear hR2 hbx hbl HP hz3 hx3
    have hx3 : xb < W3.heap.size := hxl
    gi_wp2
    refine wpIn_region_any hmix (any_round l' (by kernel_rfl) _ _ _ _ ?_)
    change wpAnyIn _ _ _ _ _ _ _ _ _ (World.drew _)
    refine wpAnyIn_take (i := 1) (v := ?_) rfl rfl (by kernel_rfl) (by kernel_rfl) (by kernel_rfl) (fun _ _ _ h => h) ⟨Or.inl ⟨by rfl, ?_⟩, fun _ => rfl⟩ ?_
    rotate_left 1
    · intro w
      go_simp
      try with_reducible rfl
    refine wpAnyIn_take (i := 2) (v := ?_) rfl rfl (by kernel_rfl) (by kernel_rfl) (by kernel_rfl) (fun _ _ _ h => h) ⟨Or.inl ⟨by rfl, ?_⟩, fun _ => rfl⟩ ?_
    rotate_left 1
    · intro w
      go_simp
      try with_reducible rfl
    refine wpAnyIn_take (i := 3) (v := ?_) rfl rfl (by kernel_rfl) (by kernel_rfl) (by kernel_rfl) (fun _ _ _ h => h) ⟨Or.inl ⟨by rfl, ?_⟩, fun _ => rfl⟩ ?_
    rotate_left 1
    · intro w
      go_simp
      try with_reducible rfl
    refine wpAnyIn_take (i := 5) (v := ?_) rfl rfl (by kernel_rfl) (by kernel_rfl) (by kernel_rfl) (fun _ _ _ h => h) ⟨Or.inl ⟨by rfl, ?_⟩, fun _ => rfl⟩ ?_
    rotate_left 1
    · intro w
      go_simp
      try with_reducible rfl
    refine wpAnyIn_take (i := 6) (v := ?_) rfl rfl (by kernel_rfl) (by kernel_rfl) (by kernel_rfl) (fun _ _ _ h => h) ⟨Or.inl ⟨by rfl, ?_⟩, fun _ => rfl⟩ ?_
    rotate_left 1
    · intro w
      go_simp
      try with_reducible rfl
    refine wpAnyIn_take (i := 7) (v := ?_) rfl rfl (by kernel_rfl) (by kernel_rfl) (by kernel_rfl) (fun _ _ _ h => h) ⟨Or.inl ⟨by rfl, ?_⟩, fun _ => rfl⟩ ?_
    rotate_left 1
    · intro w
      go_simp
      try with_reducible rfl
    refine wpAnyIn_ready (rs := [0, 4, 8]) (by kernel_rfl) (by simp) ?_
    refine (AllReadyIn.cons rfl (fun K hK => ?_) (AllReadyIn.cons rfl (fun K hK => ?_) (AllReadyIn.cons rfl (fun K hK => ?_) AllReadyIn.nil)))
    · go_simp
      refine hK _ _ ?_
      clear hK K
      refine wpAnyIn_ready (rs := [4, 8]) (by kernel_rfl) (by simp) ?_
      refine (AllReadyIn.cons rfl (fun K hK => ?_) (AllReadyIn.cons rfl (fun K hK => ?_) AllReadyIn.nil))
      · go_simp
        refine hK _ _ ?_
        clear hK K
        refine wpAnyIn_ready (rs := [8]) (by kernel_rfl) (by simp) ?_
        refine (AllReadyIn.cons rfl (fun K hK => ?_) AllReadyIn.nil)
        · go_simp
          refine hK _ _ ?_
          clear hK K
          refine wpAnyIn_ready (rs := [9]) (by kernel_rfl) (by simp) ?_
          refine AllReadyIn.cons rfl (fun K hK => ?_) AllReadyIn.nil
          go_simp
          gi_wp2_with ((first | refine hR.mono ?_ | refine ⟨fun _ => hle1, hR.mono ?_⟩); rintro e W4 ⟨rfl, hJ4, hk4⟩)
          try (refine hK _ _ ?_; clear hK K)
          refine wpAnyIn_ready (rs := [10]) (by kernel_rfl) (by simp) ?_
          refine AllReadyIn.cons rfl (fun K hK => ?_) AllReadyIn.nil
          go_simp
          try (refine hK _ _ ?_; clear hK K)
          refine wpAnyIn_done (by kernel_rfl) ?_ _
          gi_wp2
          exact ⟨rfl, HF.out _ hJ4 hk4⟩
      · go_simp
        refine hK _ _ ?_
        clear hK K
        refine wpAnyIn_ready (rs := [4]) (by kernel_rfl) (by simp) ?_
        refine (AllReadyIn.cons rfl (fun K hK => ?_) AllReadyIn.nil)
        · go_simp
          refine hK _ _ ?_
          clear hK K
          refine wpAnyIn_ready (rs := [9]) (by kernel_rfl) (by simp) ?_
          refine AllReadyIn.cons rfl (fun K hK => ?_) AllReadyIn.nil
          go_simp
          gi_wp2_with ((first | refine hR.mono ?_ | refine ⟨fun _ => hle1, hR.mono ?_⟩); rintro e W4 ⟨rfl, hJ4, hk4⟩)
          try (refine hK _ _ ?_; clear hK K)
          refine wpAnyIn_ready (rs := [10]) (by kernel_rfl) (by simp) ?_
          refine AllReadyIn.cons rfl (fun K hK => ?_) AllReadyIn.nil
          go_simp
          try (refine hK _ _ ?_; clear hK K)
          refine wpAnyIn_done (by kernel_rfl) ?_ _
          gi_wp2
          exact ⟨rfl, HF.out _ hJ4 hk4⟩
    · go_simp
      refine hK _ _ ?_
      clear hK K
      refine wpAnyIn_ready (rs := [0, 8]) (by kernel_rfl) (by simp) ?_
      refine (AllReadyIn.cons rfl (fun K hK => ?_) (AllReadyIn.cons rfl (fun K hK => ?_) AllReadyIn.nil))
      · go_simp
        refine hK _ _ ?_
        clear hK K
        refine wpAnyIn_ready (rs := [8]) (by kernel_rfl) (by simp) ?_
        refine (AllReadyIn.cons rfl (fun K hK => ?_) AllReadyIn.nil)
        · go_simp
          refine hK _ _ ?_
          clear hK K
          refine wpAnyIn_ready (rs := [9]) (by kernel_rfl) (by simp) ?_
          refine AllReadyIn.cons rfl (fun K hK => ?_) AllReadyIn.nil
          go_simp
          gi_wp2_with ((first | refine hR.mono ?_ | refine ⟨fun _ => hle1, hR.mono ?_⟩); rintro e W4 ⟨rfl, hJ4, hk4⟩)
          try (refine hK _ _ ?_; clear hK K)
          refine wpAnyIn_ready (rs := [10]) (by kernel_rfl) (by simp) ?_
          refine AllReadyIn.cons rfl (fun K hK => ?_) AllReadyIn.nil
          go_simp
          try (refine hK _ _ ?_; clear hK K)
          refine wpAnyIn_done (by kernel_rfl) ?_ _
          gi_wp2
          exact ⟨rfl, HF.out _ hJ4 hk4⟩
      · go_simp
        refine hK _ _ ?_
        clear hK K
        refine wpAnyIn_ready (rs := [0]) (by kernel_rfl) (by simp) ?_
        refine (AllReadyIn.cons rfl (fun K hK => ?_) AllReadyIn.nil)
        · go_simp
          refine hK _ _ ?_
          clear hK K
          refine wpAnyIn_ready (rs := [9]) (by kernel_rfl) (by simp) ?_
          refine AllReadyIn.cons rfl (fun K hK => ?_) AllReadyIn.nil
          go_simp
          gi_wp2_with ((first | refine hR.mono ?_ | refine ⟨fun _ => hle1, hR.mono ?_⟩); rintro e W4 ⟨rfl, hJ4, hk4⟩)
          try (refine hK _ _ ?_; clear hK K)
          refine wpAnyIn_ready (rs := [10]) (by kernel_rfl) (by simp) ?_
          refine AllReadyIn.cons rfl (fun K hK => ?_) AllReadyIn.nil
          go_simp
          try (refine hK _ _ ?_; clear hK K)
          refine wpAnyIn_done (by kernel_rfl) ?_ _
          gi_wp2
          exact ⟨rfl, HF.out _ hJ4 hk4⟩
    · go_simp
      refine hK _ _ ?_
      clear hK K
      refine wpAnyIn_ready (rs := [0, 4]) (by kernel_rfl) (by simp) ?_
      refine (AllReadyIn.cons rfl (fun K hK => ?_) (AllReadyIn.cons rfl (fun K hK => ?_) AllReadyIn.nil))
      · go_simp
        refine hK _ _ ?_
        clear hK K
        refine wpAnyIn_ready (rs := [4]) (by kernel_rfl) (by simp) ?_
        refine (AllReadyIn.cons rfl (fun K hK => ?_) AllReadyIn.nil)
        · go_simp
          refine hK _ _ ?_
          clear hK K
          refine wpAnyIn_ready (rs := [9]) (by kernel_rfl) (by simp) ?_
          refine AllReadyIn.cons rfl (fun K hK => ?_) AllReadyIn.nil
          go_simp
          gi_wp2_with ((first | refine hR.mono ?_ | refine ⟨fun _ => hle1, hR.mono ?_⟩); rintro e W4 ⟨rfl, hJ4, hk4⟩)
          try (refine hK _ _ ?_; clear hK K)
          refine wpAnyIn_ready (rs := [10]) (by kernel_rfl) (by simp) ?_
          refine AllReadyIn.cons rfl (fun K hK => ?_) AllReadyIn.nil
          go_simp
          try (refine hK _ _ ?_; clear hK K)
          refine wpAnyIn_done (by kernel_rfl) ?_ _
          gi_wp2
          exact ⟨rfl, HF.out _ hJ4 hk4⟩
      · go_simp
        refine hK _ _ ?_
        clear hK K
        refine wpAnyIn_ready (rs := [0]) (by kernel_rfl) (by simp) ?_
        refine (AllReadyIn.cons rfl (fun K hK => ?_) AllReadyIn.nil)
        · go_simp
          refine hK _ _ ?_
          clear hK K
          refine wpAnyIn_ready (rs := [9]) (by kernel_rfl) (by simp) ?_
          refine AllReadyIn.cons rfl (fun K hK => ?_) AllReadyIn.nil
          go_simp
          gi_wp2_with ((first | refine hR.mono ?_ | refine ⟨fun _ => hle1, hR.mono ?_⟩); rintro e W4 ⟨rfl, hJ4, hk4⟩)
          try (refine hK _ _ ?_; clear hK K)
          refine wpAnyIn_ready (rs := [10]) (by kernel_rfl) (by simp) ?_
          refine AllReadyIn.cons rfl (fun K hK => ?_) AllReadyIn.nil
          go_simp
          try (refine hK _ _ ?_; clear hK K)
          refine wpAnyIn_done (by kernel_rfl) ?_ _
          gi_wp2
          exact ⟨rfl, HF.out _ hJ4 hk4⟩
  · rintro W4 ⟨hj, hbx, hbl⟩ hD
    rw [nodes_ents HI.out] at hj
    gi_wp2
    refine ⟨by simp, .inl ⟨_, _, rfl, run_takeDeferred hD, ?_⟩⟩
    exact ⟨_, results_none rfl _ _ _, ⟨_, rfl⟩, HJ.out _ _ _ _ hj (grownBy_putObj' _ _ _) (Turns.other (by simp; omega) hD rfl)⟩
end Go.Proofs.Ytdffgkhlkbaecaa.Tok
