/- The contract of the program's Scan. -/
import Derived.Test.YtmekdghnkkephaaClasses
import Derived.Test.YtmekdghnkkephaaEqual
import Derived.Test.YtmekdghnkkephaaScanMath
import Derived.WalkMore
namespace Go.Proofs.Ytmekdghnkkephaa.Tok
open Go.RowKit Go.Proofs.Ytmekdghnkkephaa

theorem infoTok : (Try.prog.info? 33).map (fun i => (i.zero, i.size, i.bytes)) = some (some (.agg #[.string ⟨#[]⟩, .int .i64 0]), 2, 24) := by kernel_rfl

theorem scan_size (s : ByteArray) (h : 40000 < s.size) (w : World) :
    Calls Try.prog 32 #[.string s] w fun e w' => e = .returned (.tuple #[.slice none 0 0, .int .i64 0, .int .i64 4]) ∧ Below w.heap.size w w' := by
  go_enter Try.func32, Try.ntmps32
  go_wp2
  go_step3
  go_wp2
  rw [Exit.noGoto_ret]
  go_ret3
  exact ⟨rfl, Below.refl _ _⟩

theorem flat_snoc (s : ByteArray) (C : List (Nat × Nat)) (p : Nat × Nat) : (C.flatMap fun p => tokV (tk s p)) ++ [Value.string (s.extract p.1 p.2), Value.int .i64 (p.1 : Nat)] = (C ++ [p]).flatMap fun p => tokV (tk s p) := by
  rw [List.flatMap_append]
  simp [tokV, tk]

/-- What the scanning loop keeps. -/
def ScanRel (s : ByteArray) (B g : Nat) (w : World) (v : Value) (bg k : Nat) (wr : World) : Prop :=
  ∃ C : List (Nat × Nat), wr.ownsRow B 33 2 v C.length (C.flatMap fun p => tokV (tk s p)) ∧ C.length ≤ k ∧ Inv s.data.toList C bg k ∧ fine s k ∧ Below B w wr ∧ B ≤ g ∧ g < wr.heap.size ∧ B ≤ wr.heap.size ∧
    wr.heap[g]? = some (.cells (tab 256) 116 (0, 0))

/-- What Scan comes to. -/
def ScanPost (s : ByteArray) (w : World) (e : Ending) (w' : World) : Prop :=
  Below w.heap.size w w' ∧
  ((∃ i : Nat, badAt s i ∧ e = .returned (.tuple #[.slice none 0 0, .int .i64 (i : Nat), .int .i64 30])) ∨
   (fine s s.size ∧ 8000 < (toks s.data.toList 0).length ∧ ∃ p, (toks s.data.toList 0)[8000]? = some p ∧ e = .returned (.tuple #[.slice none 0 0, .int .i64 (p.1 : Nat), .int .i64 8])) ∨
   (fine s s.size ∧ (toks s.data.toList 0).length ≤ 8000 ∧ ∃ v, e = .returned (.tuple #[v, .int .i64 0, .int .i64 0]) ∧
      w'.ownsRow w.heap.size 33 2 v (toks s.data.toList 0).length ((toks s.data.toList 0).flatMap fun p => tokV (tk s p))))

theorem two_new (w : World) (t : TypeId) (a b : Value) {j : Nat} {u : Value} (h : [a, b][j]? = some u) : (w.alloc (.cells #[a, b] t)).cell? ((⟨w.heap.size, 0, none⟩ : Addr).add j) = some u := by
  rw [add_zero_block, cell_of_row _ _ _ _ _ _ (heap_alloc_new w _)]
  simpa using h
theorem one_pair (a : ByteArray) (b : Int) : ∀ u ∈ [Value.string a, Value.int .i64 b], u.oneCell' = true := by
  intro u hu
  rcases List.mem_cons.1 hu with rfl | hu
  · rfl
  · rcases List.mem_cons.1 hu with rfl | hu
    · rfl
    · cases hu
theorem cls255 (b : UInt8) : b.toNat < 256 := by have := b.toNat_lt; omega
theorem tab_cell {w : World} {g : Nat} (h : w.heap[g]? = some (.cells (tab 256) 116 (0, 0))) (b : UInt8) : w.cell? ⟨g, b.toNat, none⟩ = some (.int .u8 (cls b.toNat : Nat)) := by
  rw [cell_of_row _ _ _ _ _ _ h, tab_get 256 _ (cls255 b), if_pos (cls255 b)]
theorem own_ne {w : World} {base g : Nat} {v : Value} {n : Nat} {xs : List Value} {cs : Array Value} (h : w.ownsRow base 33 2 v n xs) (hg : w.heap[g]? = some (.cells cs 116 (0, 0))) : v.ownBlock ≠ some g := by
  rcases h.2 with ⟨rfl, _⟩ | ⟨g', cap, cur, rfl, _, hh, _⟩
  · simp [Value.ownBlock]
  · intro he
    have : g' = g := by simpa [Value.ownBlock] using he
    subst this
    rw [hh] at hg
    injection hg with hg
    injection hg with _ ht
    exact absurd ht (by decide)

theorem scan_push {s : ByteArray} {B g bg k : Nat} {w wr w2 : World} {v v2 : Value} {C : List (Nat × Nat)} {o : Obj}
    (hown : wr.ownsRow B 33 2 v C.length (C.flatMap fun p => tokV (tk s p))) (hg : (wr.alloc o).grownBy w2 v.ownBlock)
    (hown2 : w2.ownsRow B 33 2 v2 (C.length + 1) ((C.flatMap fun p => tokV (tk s p)) ++ [Value.string (s.extract bg (k + 1)), Value.int .i64 (bg : Nat)]))
    (hCk : C.length ≤ k) (hinv : Inv s.data.toList (C ++ [(bg, k + 1)]) bg (k + 1)) (hf : fine s (k + 1)) (hbw : Below B w wr) (hBg : B ≤ g) (hgs : g < wr.heap.size) (hBs : B ≤ wr.heap.size)
    (hh : wr.heap[g]? = some (.cells (tab 256) 116 (0, 0))) : ScanRel s B g w v2 bg (k + 1) w2 := by
  have hsz := hg.size
  have hal : (wr.alloc o).heap.size = wr.heap.size + 1 := by simp
  refine ⟨C ++ [(bg, k + 1)], ?_, by simp; omega, hinv, hf, ?_, hBg, by omega, by omega, ?_⟩
  · rw [flat_snoc s C (bg, k + 1)] at hown2
    simpa using hown2
  · exact (hbw.alloc hBs o).grown hg (by omega) (fun i hi => (hown.lt i hi).1)
  · rw [hg.block g (by omega) (fun e => own_ne hown hh e.symm), heap_alloc_old _ _ hgs]
    exact hh

set_option maxHeartbeats 1600000 in
set_option maxRecDepth 4000 in
theorem scan_any (s : ByteArray) (hs : s.size ≤ 40000) (w : World) :
    Calls Try.prog 32 #[.string s] w (ScanPost s w) := by
  obtain ⟨i0, hi0, hz0, hz1, hz2⟩ := info_parts infoTok
  have hd : decide (40000 < (s.size : Int)) = false := by rw [decide_eq_false_iff_not]; omega
  go_enter Try.func32, Try.ntmps32
  go_wp2
  go_step3
  go_wp2_with (first
    | (go_at_call 54; refine (classes_any _).mono ?_; rintro e w1 ⟨rfl, hb1⟩)
    | (refine wpList_store_row rfl 116 (.tmp 5) (.tmp 12) rfl w1.heap.size (tab 256) rfl rfl 116 (tab 0) (by rw [tab_zero]; exact heap_alloc_new _ _) size107 (by rw [tab_size, tab_size]) (tab_one 256) ?_))
  go_step3
  go_wp2_with fail
  rw [tab_zero]
  have hB1 : w.heap.size ≤ w1.heap.size := hb1.size
  go_loopw [6, 7, 15] (fun v b i wr => ∃ k bg : Nat, k ≤ s.size ∧ i = .int .i64 k ∧ b = .int .i64 bg ∧ ScanRel s w.heap.size w1.heap.size w v bg k wr) (fun _ _ i _ => s.size - (intOf i).toNat)
  case atStart =>
    refine ⟨0, 0, Nat.zero_le _, rfl, rfl, [], World.ownsRow_nil _ _ _ _, Nat.le_refl _, inv_start _, fine_zero _, ?_, hB1, by simp, by simp; omega, setRow_heap _ _ _ _ _ _ (heap_alloc_new _ _)⟩
    exact (hb1.alloc hB1 _).trans ⟨rfl, rfl, rfl, by simp, fun i hi => setRow_other _ _ _ _ (by omega)⟩
  case round =>
    obtain ⟨k, bg, hk, rfl, rfl, C, hown, hCk, hinv, hfine, hbw, hBg, hgs, hBs, hh⟩ := hrel
    have Hh := Lib.hid hh
    clear hh
    by_cases hlt : k < s.size
    · have hcell := tab_cell Hh.out s[k]
      have hby : ((s[k].toNat : Nat) : Int) < 256 := by have := cls255 s[k]; omega
      obtain ⟨c, hc⟩ : ∃ c, c = cls s[k].toNat := ⟨_, rfl⟩
      rw [← hc] at hcell
      have Hc := Lib.hid hc
      clear hc
      by_cases h0 : c = 0
      · subst h0
        go_wp2
        rw [Exit.noGoto_ret]
        go_ret3
        exact ⟨hbw, .inl ⟨k, ⟨hlt, Hc.out.symm, hfine⟩, rfl⟩⟩
      · have hn0 : ((c : Int) == 0) = false := by rw [beq_eq_false_iff_ne]; omega
        have hfine' := fine_succ hfine hlt (by rw [← Hc.out]; exact h0)
        by_cases h1 : c = 1
        · subst h1
          have hinv' := inv_space (byteAt s k hlt) (cls_sp Hc.out.symm) hinv
          go_wp2
          go_light
          refine ⟨⟨k + 1, k + 1, by omega, by go_num, by go_num, C, hown, by omega, hinv', hfine', hbw, hBg, hgs, hBs, Hh.out⟩, by simp [intOf]; omega⟩
        · have hn1 : ((c : Int) == 1) = false := by rw [beq_eq_false_iff_ne]; omega
          have hpr : prB s[k] = true := cls_pr (by rw [← Hc.out]; exact h0) (by rw [← Hc.out]; exact h1)
          have Hpr := Lib.hid hpr
          clear hpr
          have hbg := inv_le hinv
          have hclose : (∀ b', s.data.toList[k + 1]? = some b' → spB b' = true) → Hid (Inv s.data.toList (C ++ [(bg, k + 1)]) bg (k + 1)) := fun h => inv_close (byteAt s k hlt) Hpr.out h hinv
          have Hclose := Lib.hid hclose
          clear hclose
          have Hown := Lib.hid hown
          have h63 : C.length + 1 ≤ maxLen := by simp only [maxLen]; omega
          have hby24 : (C.length + 1) * 24 ≤ 140737488355328 := by omega
          have hbs2 : ∀ o, w.heap.size ≤ (wr.alloc o).heap.size := fun o => by simp; omega
          by_cases hn : k + 1 < s.size
          · have hcell2 := tab_cell Hh.out s[k + 1]
            have hby2 : ((s[k + 1].toNat : Nat) : Int) < 256 := by have := cls255 s[k + 1]; omega
            obtain ⟨c2, hc2⟩ : ∃ c2, c2 = cls s[k + 1].toNat := ⟨_, rfl⟩
            rw [← hc2] at hcell2
            have Hc2 := Lib.hid hc2
            clear hc2
            by_cases h2 : c2 = 1
            · subst h2
              have hsp : ∀ b', s.data.toList[k + 1]? = some b' → spB b' = true := fun b' hb' => by
                rw [byteAt s (k + 1) hn] at hb'; injection hb' with hb'; subst hb'; exact cls_sp Hc2.out.symm
              have Hcl := Hclose.out hsp
              clear hsp
              go_wp2_with (at_builtin; go_must (refine wpList_append_own _ rfl (.tmp 44) (.tmp 52) 23 rfl w.heap.size 33 i0 (.agg #[.string ⟨#[]⟩, .int .i64 0]) 2 24 Try.underlying23 hi0 hz0 hz1 hz2 rfl (by decide) _ _ _ rfl (hown.alloc _) ⟨wr.heap.size, 0, none⟩ 1 1 [.string (s.extract bg (k + 1)), .int .i64 (bg : Nat)] rfl rfl (fun j u hu => two_new wr _ _ _ hu) (one_pair _ _) h63 hby24 (hbs2 _) ?_); intro v2 w2 hown2 hgrow2 _)
              go_light
              exact ⟨⟨k + 1, bg, by omega, by go_num, rfl, scan_push hown hgrow2 hown2 hCk Hcl.out hfine' hbw hBg hgs hBs Hh.out⟩, by simp [intOf]; omega⟩
            · have hn2 : ((c2 : Int) != 1) = true := by rw [bne_iff_ne]; omega
              have hmore := inv_more (byteAt s k hlt) Hpr.out (byteAt s (k + 1) hn) (cls_nsp (by rw [← Hc2.out]; exact h2)) hinv
              go_wp2
              go_light
              refine ⟨⟨k + 1, bg, by omega, by go_num, rfl, C, Hown.out, by omega, hmore, hfine', hbw, hBg, hgs, hBs, Hh.out⟩, by simp [intOf]; omega⟩
          · have hsp : ∀ b', s.data.toList[k + 1]? = some b' → spB b' = true := fun b' hb' => by
              rw [List.getElem?_eq_none (by simp; omega)] at hb'; cases hb'
            have Hcl := Hclose.out hsp
            clear hsp
            have hnn : decide (k + 1 < s.size) = false := by rw [decide_eq_false_iff_not]; exact hn
            go_wp2_with (at_builtin; go_must (refine wpList_append_own _ rfl (.tmp 44) (.tmp 52) 23 rfl w.heap.size 33 i0 (.agg #[.string ⟨#[]⟩, .int .i64 0]) 2 24 Try.underlying23 hi0 hz0 hz1 hz2 rfl (by decide) _ _ _ rfl (hown.alloc _) ⟨wr.heap.size, 0, none⟩ 1 1 [.string (s.extract bg (k + 1)), .int .i64 (bg : Nat)] rfl rfl (fun j u hu => two_new wr _ _ _ hu) (one_pair _ _) h63 hby24 (hbs2 _) ?_); intro v2 w2 hown2 hgrow2 _)
            go_light
            exact ⟨⟨k + 1, bg, by omega, by go_num, rfl, scan_push hown hgrow2 hown2 hCk Hcl.out hfine' hbw hBg hgs hBs Hh.out⟩, by simp [intOf]; omega⟩
    · obtain rfl : k = s.size := by omega
      obtain rfl := inv_end (by simp) hinv
      have Hown := Lib.hid hown
      rcases hown.2 with ⟨rfl, hz⟩ | ⟨gg, cap, cur, rfl, _, hhh, _, _, _, _⟩
      · have hle : (toks s.data.toList 0).length ≤ 8000 := by omega
        clear hown hz
        go_wp2
        rw [Exit.noGoto_ret]
        go_ret3
        exact ⟨hbw, .inr (.inr ⟨hfine, hle, _, rfl, Hown.out⟩)⟩
      · have Hf := Lib.hid hfine
        generalize hT : toks s.data.toList 0 = T at *
        have HT := Lib.hid hT
        clear hT
        by_cases hle : T.length ≤ 8000
        · clear hown
          go_wp2
          rw [Exit.noGoto_ret]
          go_ret3
          exact ⟨hbw, .inr (.inr ⟨Hf.out, by rw [HT.out]; exact hle, _, rfl, by rw [HT.out]; exact Hown.out⟩)⟩
        · have hgt : 8000 < T.length := by omega
          obtain ⟨p, hp⟩ : ∃ p, T[8000]? = some p := ⟨_, List.getElem?_eq_getElem hgt⟩
          have hcl : (T.flatMap fun p => tokV (tk s p))[8000 * 2 + 1]? = some (.int .i64 (p.1 : Nat)) := by
            rw [flat2 (fun p => tokV (tk s p)) (fun _ => rfl) T 8000 1 hgt (by omega)]
            rw [List.getElem?_eq_getElem hgt] at hp
            injection hp with hp
            rw [hp]; rfl
          have hcell := (Hown.out.cells (g := gg) rfl _ _ hcl)
          rw [add_zero_block] at hcell
          have Hp := Lib.hid hp
          clear hp hown hcl
          have hlen : 8000 < T.length := hgt
          go_wp2
          go_quiet (fail)
          go_wp2
          rw [Exit.noGoto_ret]
          go_ret3
          exact ⟨below_drewN hbw _, .inr (.inl ⟨Hf.out, by rw [HT.out]; exact hgt, p, by rw [HT.out]; exact Hp.out, rfl⟩)⟩
end Go.Proofs.Ytmekdghnkkephaa.Tok
