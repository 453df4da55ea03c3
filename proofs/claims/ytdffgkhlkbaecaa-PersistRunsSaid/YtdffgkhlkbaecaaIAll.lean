/- All: the iterator over a tree's entries. -/
import Derived.Test.YtdffgkhlkbaecaaIStop
import Derived.Test.YtdffgkhlkbaecaaAll
namespace Go.Proofs.Ytdffgkhlkbaecaa.Tok
open Go.RowKit Go.Proofs.Ytdffgkhlkbaecaa
attribute [local go_sem] Oper.semAt_some

theorem nodes_inI (n : Nat) (p : Option Addr) (w : World) : CallsIn Fence.wide n Try.prog 40 #[.pointer p] w fun e w' => e = .returned (.func (.func 57) #[] #[.pointer (some ⟨w.heap.size, 0, none⟩)]) ∧ w' = w.alloc (.cells #[.pointer p] 37) := by
  refine callsIn_of_wp Try.func40 rfl trivial ?_ rfl
  simp only [Try.ntmps40, List.size_toArray, List.length_cons, List.length_nil, Nat.reduceAdd, Nat.reduceSub, Array.replicate_succ, Array.replicate_zero, List.push_toArray, List.append_toArray, List.nil_append, List.cons_append]
  gi_wp2
  go_ret
  exact ⟨rfl, rfl⟩
theorem nodes_givesI (n : Nat) (hn : 1 ≤ n) (p : Option Addr) (t : Tr Int) (w w1 : World) (hI : Is (Value.int .i64) 86 w p t) (hts : t.size ≤ 1000000) (hb : Below w.heap.size w w1) :
    GivesS 37 Fence.wide n Try.prog 57 #[.pointer (some ⟨w1.heap.size, 0, none⟩)] encNI (KpNI w.heap.size) (nodesOfI w t p) (w1.alloc (.cells #[.pointer p] 37)) := by
  intro l J Jx W hW hJ _ hY h0
  have hW1 : Below w.heap.size w W := (hb.alloc hb.size _).trans (hW.mono (by have := hb.size; simp; omega))
  exact nodes1s_inI Fence.wide n trivial rfl hn l w1.heap.size p t J Jx w W hI hts hW1 hJ ((hW.cell (p := ⟨w1.heap.size, 0, none⟩) (by simp)).trans (by rw [cell_of_row _ _ _ _ _ _ (heap_alloc_new w1 _)]; rfl)) hY h0
theorem KpNI.putLoop {n₀ i : Nat} {W : World} {r r' : Loop} (h : W.heap[i]? = some (.loop r)) (hi : n₀ ≤ i) : KpNI n₀ W (W.putObj i (.loop r')) :=
  ⟨(Below.refl n₀ W).grown (grownBy_putObj' W i _) (by have := (Array.getElem?_eq_some_iff.1 h).1; omega) (fun k e => by cases e; exact hi), fun k cs fr hk => by
    rw [World.putObj_heap_other (fun e => by rw [e, h] at hk; cases hk)]
    exact hk⟩
theorem KpNI.drew {n₀ : Nat} (W : World) : KpNI n₀ W W.drew := ⟨(Below.refl _ _).drew, fun _ _ _ h => h⟩
def encEI (x : Int × Int) : Array Value := #[.int .i64 x.1, .int .i64 x.2]
/-- What a round of All keeps: what a round of nodes keeps; boxes of functions; what is no cells, from D on. -/
structure KpAI (n₀ D : Nat) (W W' : World) : Prop where
  nd : KpNI n₀ W W'
  box : ∀ (i : Nat) (cs : Array Value) (fr : Nat × Nat), W.heap[i]? = some (.cells cs 87 fr) → W'.heap[i]? = some (.cells cs 87 fr)
  oth : ∀ (k : Nat) (o : Obj), D ≤ k → W.heap[k]? = some o → o.isCells = false → W'.heap[k]? = some o
  size : W.heap.size ≤ W'.heap.size
theorem KpAI.trans {n₀ D : Nat} {A B C : World} (h : KpAI n₀ D A B) (k : KpAI n₀ D B C) : KpAI n₀ D A C :=
  ⟨h.nd.trans k.nd, fun i cs fr e => k.box i cs fr (h.box i cs fr e), fun i o hi e ho => k.oth i o hi (h.oth i o hi e ho) ho, Nat.le_trans h.size k.size⟩
theorem KpAI.putLoop {n₀ D i : Nat} {W : World} {r r' : Loop} (h : W.heap[i]? = some (.loop r)) (hi : n₀ ≤ i) (hD : i < D) : KpAI n₀ D W (W.putObj i (.loop r')) :=
  ⟨KpNI.putLoop h hi, fun k cs fr hk => by
    rw [World.putObj_heap_other (fun e => by rw [e, h] at hk; cases hk)]
    exact hk, fun k o hk ho _ => by
    rw [World.putObj_heap_other (by omega)]
    exact ho, by simp⟩
set_option maxHeartbeats 3200000 in
set_option maxRecDepth 8000 in
theorem all1_inI (n : Nat) (hn : 3 ≤ n) (l Ba D : Nat) (p : Option Addr) (t : Tr Int) (J Jx : List (Int × Int) → World → Prop) (w W : World)
    (hI : Is (Value.int .i64) 86 w p t) (hts : t.size ≤ 1000000) (hW : Below w.heap.size w W) (hJ : Abide 37 W.heap.size J) (hJx : Abide 37 W.heap.size Jx)
    (hDW : D ≤ W.heap.size + 2) (hBa2 : Ba < W.heap.size) (cB : W.cell? ⟨Ba, 0, none⟩ = some (.pointer p))
    (hY : ∀ pre x W1, J pre W1 → pre ++ [x] <+: t.ents → YieldAt Fence.wide (n - 1) Try.prog l (encEI x) W1 fun e W' => ((e = .returned (.bool true) ∧ J (pre ++ [x]) W') ∨ (e = .returned (.bool false) ∧ Jx (pre ++ [x]) W')) ∧ KpAI w.heap.size D W1 W')
    (h0 : J [] W) :
    CallsIn Fence.wide n Try.prog 39 #[.func (.yield l) #[] #[], .pointer (some ⟨Ba, 0, none⟩)] W fun e W' => (∃ v, e = .returned v) ∧ (J t.ents W' ∨ ∃ pre, pre <+: t.ents ∧ Jx pre W') := by
  have h1 : 1 ≤ n := by omega
  have HI := Lib.hid hI
  have HW := Lib.hid hW
  have HJ := Lib.hid hJ
  have HJx := Lib.hid hJx
  have HY := Lib.hid hY
  have H0 := Lib.hid h0
  have hBW : w.heap.size ≤ W.heap.size := hW.size
  clear hI hW hJ hJx hY h0
  refine callsIn_of_wp_marks Try.func39 rfl trivial ?_ rfl
  simp only [Try.ntmps39, List.size_toArray, List.length_cons, List.length_nil, Nat.reduceAdd, Nat.reduceSub, Array.replicate_succ, Array.replicate_zero, List.push_toArray, List.append_toArray, List.nil_append, List.cons_append]
  gi_wp2_with fail
  refine ⟨trivial, (nodes_inI (n - 1) p _).mono ?_⟩
  rintro e w' ⟨rfl, rfl⟩
  gi_wp2
  have hb161 : Below w.heap.size w (W.alloc (.cells #[.func (.yield l) #[] #[]] 87)) := HW.out.alloc HW.out.size _
  have hG := nodes_givesI (n - 1) (by omega) p t w _ HI.out hts hb161
  rw [World.size_alloc] at hG
  refine wp_range3 37 rfl h1 (gf := 57) (lb := #[.pointer (some ⟨W.heap.size + 1, 0, none⟩)]) rfl trivial (enters_of Try.func57 (by kernel_rfl) rfl) hG
    KpNI.trans (fun W2 r r' h => KpNI.putLoop h (by simp; omega)) (Below.refl _ _) (fun _ => rfl)
    (fun pre W' => J (pre.map (·.2)) W' ∧ W'.heap[W.heap.size]? = some (.cells #[.func (.yield l) #[] #[]] 87 (0, 0)) ∧ Below w.heap.size w W') (fun c pre W' => c = .ret ∧ Jx (pre.map (·.2)) W') ?_ ?_ ?_
    (fun x => { tmps := #[.func (.yield l) #[] #[], .pointer (some ⟨Ba, 0, none⟩), .pointer (some ⟨W.heap.size, 0, none⟩), .pointer (some ⟨x.1, 0, none⟩), .pointer (some ⟨Ba, 0, none⟩), .pointer p, .func (.func 57) #[] #[.pointer (some ⟨W.heap.size + 1, 0, none⟩)], .pointer (some ⟨x.1, 0, none⟩), undef, undef, undef, undef, undef, undef, undef, undef, undef, undef, undef], defers := [] }) ?_ ?_ ?_ ?_
  · rintro pre A B row ⟨hj, hbx, hbl⟩ hg ht
    refine ⟨HJ.out _ _ _ _ hj hg (ht.mono (by simp; omega)), box_turns hbx hg ht (by decide), hbl.grown hg hbl.size fun k e => ?_⟩
    have := (ht k e).1
    simp at this
    omega
  · rintro c pre A B row ⟨rfl, hj⟩ hg ht
    exact ⟨rfl, HJx.out _ _ _ _ hj hg (ht.mono (by simp; omega))⟩
  · have hj0 := HJ.out.alloc (HJ.out.alloc H0.out (.cells #[.func (.yield l) #[] #[]] 87)) (.cells #[.pointer p] 37)
    refine ⟨hj0, ?_, hb161.alloc (by simp; omega) _⟩
    exact (heap_alloc_old (W.alloc (.cells #[.func (.yield l) #[] #[]] 87)) (.cells #[.pointer p] 37) W.heap.size (by simp)).trans (heap_alloc_new W _)
  · intro l' x W2 K hK
    dsimp only [encNI]
    gi_wp2
    exact hK
  · rintro l' pre x W3 ⟨hj, hbx, hbl⟩ hpre
    have hmem : x ∈ nodesOfI w t p := hpre.subset (by simp)
    obtain ⟨x1, x2, x3⟩ := nodes_atI HI.out x hmem
    have hz3 := hbl.size
    have d0 := (hbl.cell (p := ⟨x.1, 0, none⟩) x1).trans x2
    have d1 := (hbl.cell (p := ⟨x.1, 1, none⟩) x1).trans x3
    have hx3 : x.1 < W3.heap.size := by omega
    have cb := (cell_of_row _ _ 0 _ _ _ hbx).trans (rfl : _ = some (Value.func (.yield l) #[] #[]))
    have hpre2 : pre.map (·.2) ++ [x.2] <+: t.ents := by
      rw [← nodes_entsI HI.out]
      have := List.IsPrefix.map (·.2) hpre
      simpa using this
    have hj' := HJ.out _ _ _ _ hj (grown_drew W3) (Turns.none _ _ _)
    obtain ⟨fn, tmps, assign, body, hy, hR⟩ := yield_any (n - 1 - 1 - 1) (HY.out _ _ _ hj' hpre2)
    have hblt : W.heap.size < W3.heap.size := (Array.getElem?_eq_some_iff.1 hbx).1
    have hxl := hx3
    obtain ⟨xb, xk, xv⟩ := x
    simp only at hxl
    simp only at d0 d1 hx3
    dsimp only [encEI] at hy
    have HP := Lib.hid hpre2
    clear hmem x1 x2 x3 hpre hpre2 hj hj'
    have hmix : Try.prog.follows .mixedOrders = true := by kernel_rfl
    have hle1 : 1 ≤ n - 1 - 1 := by omega
    have hR2 : RoundIn (Fence.wide.inRound l') (n - 1 - 1 - 1) Try.prog l fn tmps assign body W3.drew _ := hR
    have HF : Hid (∀ W4, KpAI w.heap.size D W3.drew W4 → (KeepsFrom ((W.alloc (.cells #[.func (.yield l) #[] #[]] 87)).alloc (.cells #[.pointer p] 37)).heap.size W3 W4 ∧ KpNI w.heap.size W3 W4) ∧
        (J (pre.map (·.2) ++ [(xk, xv)]) W4 → (J ((pre ++ [(xb, xk, xv)]).map (·.2)) W4 ∧ W4.heap[W.heap.size]? = some (.cells #[.func (.yield l) #[] #[]] 87 (0, 0)) ∧ Below w.heap.size w W4)) ∧ (Jx (pre.map (·.2) ++ [(xk, xv)]) W4 → Jx ((pre ++ [(xb, xk, xv)]).map (·.2)) W4)) := fun W4 k2 => by
      refine ⟨⟨⟨k2.size, fun k o hk ho hc => k2.oth k o (by simp at hk; omega) ho hc⟩, (KpNI.drew W3).trans k2.nd⟩, fun k1 => ⟨by simpa using k1, k2.box _ _ _ hbx, hbl.trans ((Below.refl _ _).drew.trans k2.nd.below)⟩, fun k1 => by simpa using k1⟩
    clear hR2 hbx hbl HP hz3 hx3
    have hx3 : xb < W3.heap.size := hxl
    gi_wp2
    refine wpIn_region_any hmix (any_round l' (by kernel_rfl) _ _ _ _ ?_)
    change wpAnyIn _ _ _ _ _ _ _ _ _ (World.drew _)
    refine wpAnyIn_take (i := 1) (v := ?_) rfl rfl (by kernel_rfl) (by kernel_rfl) (by kernel_rfl) (fun _ _ _ h => h) ⟨Or.inl ⟨by rfl, ?_⟩, fun _ => rfl⟩ ?_
    rotate_left 1
    · intro w
      go_simp
      try with_reducible rfl
    refine wpAnyIn_take (i := 2) (v := ?_) rfl rfl (by kernel_rfl) (by kernel_rfl) (by kernel_rfl) (fun _ _ _ h => h) ⟨Or.inl ⟨by rfl, ?_⟩, fun _ => rfl⟩ ?_
    rotate_left 1
    · intro w
      go_simp
      try with_reducible rfl
    refine wpAnyIn_take (i := 3) (v := ?_) rfl rfl (by kernel_rfl) (by kernel_rfl) (by kernel_rfl) (fun _ _ _ h => h) ⟨Or.inl ⟨by rfl, ?_⟩, fun _ => rfl⟩ ?_
    rotate_left 1
    · intro w
      go_simp
      try with_reducible rfl
    refine wpAnyIn_take (i := 5) (v := ?_) rfl rfl (by kernel_rfl) (by kernel_rfl) (by kernel_rfl) (fun _ _ _ h => h) ⟨Or.inl ⟨by rfl, ?_⟩, fun _ => rfl⟩ ?_
    rotate_left 1
    · intro w
      go_simp
      try with_reducible rfl
    refine wpAnyIn_take (i := 6) (v := ?_) rfl rfl (by kernel_rfl) (by kernel_rfl) (by kernel_rfl) (fun _ _ _ h => h) ⟨Or.inl ⟨by rfl, ?_⟩, fun _ => rfl⟩ ?_
    rotate_left 1
    · intro w
      go_simp
      try with_reducible rfl
    refine wpAnyIn_take (i := 7) (v := ?_) rfl rfl (by kernel_rfl) (by kernel_rfl) (by kernel_rfl) (fun _ _ _ h => h) ⟨Or.inl ⟨by rfl, ?_⟩, fun _ => rfl⟩ ?_
    rotate_left 1
    · intro w
      go_simp
      try with_reducible rfl
    refine wpAnyIn_ready (rs := [0, 4, 8]) (by kernel_rfl) (by simp) ?_
    refine (AllReadyIn.cons rfl (fun K hK => ?_) (AllReadyIn.cons rfl (fun K hK => ?_) (AllReadyIn.cons rfl (fun K hK => ?_) AllReadyIn.nil)))
    · go_simp
      refine hK _ _ ?_
      clear hK K
      refine wpAnyIn_ready (rs := [4, 8]) (by kernel_rfl) (by simp) ?_
      refine (AllReadyIn.cons rfl (fun K hK => ?_) (AllReadyIn.cons rfl (fun K hK => ?_) AllReadyIn.nil))
      · go_simp
        refine hK _ _ ?_
        clear hK K
        refine wpAnyIn_ready (rs := [8]) (by kernel_rfl) (by simp) ?_
        refine (AllReadyIn.cons rfl (fun K hK => ?_) AllReadyIn.nil)
        · go_simp
          refine hK _ _ ?_
          clear hK K
          refine wpAnyIn_ready (rs := [9]) (by kernel_rfl) (by simp) ?_
          refine AllReadyIn.cons rfl (fun K hK => ?_) AllReadyIn.nil
          go_simp
          gi_wp2_with ((first | refine hR.mono ?_ | refine ⟨fun _ => hle1, hR.mono ?_⟩); rintro e W4 ⟨⟨rfl, hJ4⟩ | ⟨rfl, hJ4⟩, hk4⟩)
          all_goals
            try (refine hK _ _ ?_; clear hK K)
            refine wpAnyIn_ready (rs := [10]) (by kernel_rfl) (by simp) ?_
            refine AllReadyIn.cons rfl (fun K hK => ?_) AllReadyIn.nil
            go_simp
            try (refine hK _ _ ?_; clear hK K)
            refine wpAnyIn_done (by kernel_rfl) ?_ _
            gi_wp2
            first | exact ⟨(HF.out _ hk4).1, .inl ⟨rfl, (HF.out _ hk4).2.1 hJ4⟩⟩ | exact ⟨(HF.out _ hk4).1, .inr (.inl ⟨rfl, rfl, (HF.out _ hk4).2.2 hJ4⟩)⟩
      · go_simp
        refine hK _ _ ?_
        clear hK K
        refine wpAnyIn_ready (rs := [4]) (by kernel_rfl) (by simp) ?_
        refine (AllReadyIn.cons rfl (fun K hK => ?_) AllReadyIn.nil)
        · go_simp
          refine hK _ _ ?_
          clear hK K
          refine wpAnyIn_ready (rs := [9]) (by kernel_rfl) (by simp) ?_
          refine AllReadyIn.cons rfl (fun K hK => ?_) AllReadyIn.nil
          go_simp
          gi_wp2_with ((first | refine hR.mono ?_ | refine ⟨fun _ => hle1, hR.mono ?_⟩); rintro e W4 ⟨⟨rfl, hJ4⟩ | ⟨rfl, hJ4⟩, hk4⟩)
          all_goals
            try (refine hK _ _ ?_; clear hK K)
            refine wpAnyIn_ready (rs := [10]) (by kernel_rfl) (by simp) ?_
            refine AllReadyIn.cons rfl (fun K hK => ?_) AllReadyIn.nil
            go_simp
            try (refine hK _ _ ?_; clear hK K)
            refine wpAnyIn_done (by kernel_rfl) ?_ _
            gi_wp2
            first | exact ⟨(HF.out _ hk4).1, .inl ⟨rfl, (HF.out _ hk4).2.1 hJ4⟩⟩ | exact ⟨(HF.out _ hk4).1, .inr (.inl ⟨rfl, rfl, (HF.out _ hk4).2.2 hJ4⟩)⟩
    · go_simp
      refine hK _ _ ?_
      clear hK K
      refine wpAnyIn_ready (rs := [0, 8]) (by kernel_rfl) (by simp) ?_
      refine (AllReadyIn.cons rfl (fun K hK => ?_) (AllReadyIn.cons rfl (fun K hK => ?_) AllReadyIn.nil))
      · go_simp
        refine hK _ _ ?_
        clear hK K
        refine wpAnyIn_ready (rs := [8]) (by kernel_rfl) (by simp) ?_
        refine (AllReadyIn.cons rfl (fun K hK => ?_) AllReadyIn.nil)
        · go_simp
          refine hK _ _ ?_
          clear hK K
          refine wpAnyIn_ready (rs := [9]) (by kernel_rfl) (by simp) ?_
          refine AllReadyIn.cons rfl (fun K hK => ?_) AllReadyIn.nil
          go_simp
          gi_wp2_with ((first | refine hR.mono ?_ | refine ⟨fun _ => hle1, hR.mono ?_⟩); rintro e W4 ⟨⟨rfl, hJ4⟩ | ⟨rfl, hJ4⟩, hk4⟩)
          all_goals
            try (refine hK _ _ ?_; clear hK K)
            refine wpAnyIn_ready (rs := [10]) (by kernel_rfl) (by simp) ?_
            refine AllReadyIn.cons rfl (fun K hK => ?_) AllReadyIn.nil
            go_simp
            try (refine hK _ _ ?_; clear hK K)
            refine wpAnyIn_done (by kernel_rfl) ?_ _
            gi_wp2
            first | exact ⟨(HF.out _ hk4).1, .inl ⟨rfl, (HF.out _ hk4).2.1 hJ4⟩⟩ | exact ⟨(HF.out _ hk4).1, .inr (.inl ⟨rfl, rfl, (HF.out _ hk4).2.2 hJ4⟩)⟩
      · go_simp
        refine hK _ _ ?_
        clear hK K
        refine wpAnyIn_ready (rs := [0]) (by kernel_rfl) (by simp) ?_
        refine (AllReadyIn.cons rfl (fun K hK => ?_) AllReadyIn.nil)
        · go_simp
          refine hK _ _ ?_
          clear hK K
          refine wpAnyIn_ready (rs := [9]) (by kernel_rfl) (by simp) ?_
          refine AllReadyIn.cons rfl (fun K hK => ?_) AllReadyIn.nil
          go_simp
          gi_wp2_with ((first | refine hR.mono ?_ | refine ⟨fun _ => hle1, hR.mono ?_⟩); rintro e W4 ⟨⟨rfl, hJ4⟩ | ⟨rfl, hJ4⟩, hk4⟩)
          all_goals
            try (refine hK _ _ ?_; clear hK K)
            refine wpAnyIn_ready (rs := [10]) (by kernel_rfl) (by simp) ?_
            refine AllReadyIn.cons rfl (fun K hK => ?_) AllReadyIn.nil
            go_simp
            try (refine hK _ _ ?_; clear hK K)
            refine wpAnyIn_done (by kernel_rfl) ?_ _
            gi_wp2
            first | exact ⟨(HF.out _ hk4).1, .inl ⟨rfl, (HF.out _ hk4).2.1 hJ4⟩⟩ | exact ⟨(HF.out _ hk4).1, .inr (.inl ⟨rfl, rfl, (HF.out _ hk4).2.2 hJ4⟩)⟩
    · go_simp
      refine hK _ _ ?_
      clear hK K
      refine wpAnyIn_ready (rs := [0, 4]) (by kernel_rfl) (by simp) ?_
      refine (AllReadyIn.cons rfl (fun K hK => ?_) (AllReadyIn.cons rfl (fun K hK => ?_) AllReadyIn.nil))
      · go_simp
        refine hK _ _ ?_
        clear hK K
        refine wpAnyIn_ready (rs := [4]) (by kernel_rfl) (by simp) ?_
        refine (AllReadyIn.cons rfl (fun K hK => ?_) AllReadyIn.nil)
        · go_simp
          refine hK _ _ ?_
          clear hK K
          refine wpAnyIn_ready (rs := [9]) (by kernel_rfl) (by simp) ?_
          refine AllReadyIn.cons rfl (fun K hK => ?_) AllReadyIn.nil
          go_simp
          gi_wp2_with ((first | refine hR.mono ?_ | refine ⟨fun _ => hle1, hR.mono ?_⟩); rintro e W4 ⟨⟨rfl, hJ4⟩ | ⟨rfl, hJ4⟩, hk4⟩)
          all_goals
            try (refine hK _ _ ?_; clear hK K)
            refine wpAnyIn_ready (rs := [10]) (by kernel_rfl) (by simp) ?_
            refine AllReadyIn.cons rfl (fun K hK => ?_) AllReadyIn.nil
            go_simp
            try (refine hK _ _ ?_; clear hK K)
            refine wpAnyIn_done (by kernel_rfl) ?_ _
            gi_wp2
            first | exact ⟨(HF.out _ hk4).1, .inl ⟨rfl, (HF.out _ hk4).2.1 hJ4⟩⟩ | exact ⟨(HF.out _ hk4).1, .inr (.inl ⟨rfl, rfl, (HF.out _ hk4).2.2 hJ4⟩)⟩
      · go_simp
        refine hK _ _ ?_
        clear hK K
        refine wpAnyIn_ready (rs := [0]) (by kernel_rfl) (by simp) ?_
        refine (AllReadyIn.cons rfl (fun K hK => ?_) AllReadyIn.nil)
        · go_simp
          refine hK _ _ ?_
          clear hK K
          refine wpAnyIn_ready (rs := [9]) (by kernel_rfl) (by simp) ?_
          refine AllReadyIn.cons rfl (fun K hK => ?_) AllReadyIn.nil
          go_simp
          gi_wp2_with ((first | refine hR.mono ?_ | refine ⟨fun _ => hle1, hR.mono ?_⟩); rintro e W4 ⟨⟨rfl, hJ4⟩ | ⟨rfl, hJ4⟩, hk4⟩)
          all_goals
            try (refine hK _ _ ?_; clear hK K)
            refine wpAnyIn_ready (rs := [10]) (by kernel_rfl) (by simp) ?_
            refine AllReadyIn.cons rfl (fun K hK => ?_) AllReadyIn.nil
            go_simp
            try (refine hK _ _ ?_; clear hK K)
            refine wpAnyIn_done (by kernel_rfl) ?_ _
            gi_wp2
            first | exact ⟨(HF.out _ hk4).1, .inl ⟨rfl, (HF.out _ hk4).2.1 hJ4⟩⟩ | exact ⟨(HF.out _ hk4).1, .inr (.inl ⟨rfl, rfl, (HF.out _ hk4).2.2 hJ4⟩)⟩
  · rintro W4 ⟨hj, hbx, hbl⟩ hD
    rw [nodes_entsI HI.out] at hj
    gi_wp2
    refine ⟨by simp, .inl ⟨_, _, rfl, run_takeDeferred hD, ?_⟩⟩
    exact ⟨_, results_none rfl _ _ _, ⟨_, rfl⟩, .inl (HJ.out _ _ _ _ hj (grownBy_putObj' _ _ _) (Turns.other (by simp; omega) hD rfl))⟩
  · rintro c pre W4 hpre ⟨rfl, hj⟩ hD
    have hpre2 : pre.map (·.2) <+: t.ents := by
      rw [← nodes_entsI HI.out]
      exact List.IsPrefix.map (·.2) hpre
    have HP2 := Lib.hid hpre2
    clear hpre hpre2
    gi_wp2
    refine ⟨by simp, .inl ⟨_, _, rfl, run_takeDeferred hD, ?_⟩⟩
    exact ⟨_, results_none rfl _ _ _, ⟨_, rfl⟩, .inr ⟨_, HP2.out, HJx.out _ _ _ _ hj (grownBy_putObj' _ _ _) (Turns.other (by simp; omega) hD rfl)⟩⟩
end Go.Proofs.Ytdffgkhlkbaecaa.Tok
