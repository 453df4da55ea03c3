/- The contract of the reference's Scan. -/
import Derived.Test.YtmekdghnkkephaaScanWalks
namespace Go.Proofs.Ytmekdghnkkephaa.Tok
open Go.RowKit Go.Proofs.Ytmekdghnkkephaa

theorem rscan_size (s : ByteArray) (h : 40000 < s.size) (w : World) :
    Calls Try.prog 36 #[.string s] w fun e w' => e = .returned (.tuple #[.slice none 0 0, .int .i64 0, .int .i64 4]) ∧ Below w.heap.size w w' := by
  go_enter Try.func36, Try.ntmps36
  go_wp2
  go_ret3
  exact ⟨rfl, Below.refl _ _⟩

theorem own_slice {w : World} {base e size n : Nat} {v : Value} {xs : List Value} (h : w.ownsRow base e size v n xs) : ∃ A c, v = .slice A n c := by
  rcases h.2 with ⟨rfl, rfl⟩ | ⟨g, cap, cur, rfl, _⟩
  · exact ⟨_, _, rfl⟩
  · exact ⟨_, _, rfl⟩

theorem space_of {b : UInt8} : spB b = true ↔ cls b.toNat = 1 := by rw [← onG]; unfold onCls qG; rw [beq_iff_eq]; omega
theorem pr_of {b : UInt8} : prB b = true ↔ (cls b.toNat ≠ 1 ∧ cls b.toNat ≠ 0) := by rw [← onW]; unfold onCls qW; rw [Bool.and_eq_true, bne_iff_ne, bne_iff_ne]; omega

/-- What the outer loop keeps. -/
def RScanRel (s : ByteArray) (B : Nat) (w : World) (v : Value) (i : Nat) (wr : World) : Prop :=
  ∃ C : List (Nat × Nat), wr.ownsRow B 33 2 v C.length (C.flatMap fun p => tokV (tk s p)) ∧ C.length ≤ i ∧ C.length ≤ 8000 ∧ C ++ toks s.data.toList i = toks s.data.toList 0 ∧ Below B w wr ∧ B ≤ wr.heap.size

theorem rscan_push {s : ByteArray} {B i e : Nat} {w wr w2 : World} {v v2 : Value} {C : List (Nat × Nat)} {o : Obj}
    (hown : wr.ownsRow B 33 2 v C.length (C.flatMap fun p => tokV (tk s p))) (hg : (wr.alloc o).grownBy w2 v.ownBlock)
    (hown2 : w2.ownsRow B 33 2 v2 (C.length + 1) ((C.flatMap fun p => tokV (tk s p)) ++ [Value.string (s.extract i e), Value.int .i64 (i : Nat)]))
    (hCi : C.length + 1 ≤ e) (hC8 : C.length + 1 ≤ 8000) (ht : C ++ (i, e) :: toks s.data.toList e = toks s.data.toList 0) (hbw : Below B w wr) (hBs : B ≤ wr.heap.size) : RScanRel s B w v2 e w2 := by
  have hsz := hg.size
  have hal : (wr.alloc o).heap.size = wr.heap.size + 1 := by simp
  refine ⟨C ++ [(i, e)], ?_, by simpa using hCi, by simpa using hC8, by rw [← ht, List.append_assoc]; rfl, ?_, by omega⟩
  · rw [flat_snoc s C (i, e)] at hown2
    simpa using hown2
  · exact (hbw.alloc hBs o).grown hg (by omega) (fun j hj => (hown.lt j hj).1)

theorem full_of {s : ByteArray} {C : List (Nat × Nat)} {p : Nat × Nat} {R : List (Nat × Nat)} (h8 : C.length = 8000) (hf : fine s s.size) (ht : C ++ p :: R = toks s.data.toList 0) :
    fine s s.size ∧ 8000 < (toks s.data.toList 0).length ∧ ∃ q, (toks s.data.toList 0)[8000]? = some q ∧ Ending.returned (.tuple #[.slice none 0 0, .int .i64 (p.1 : Nat), .int .i64 8]) = .returned (.tuple #[.slice none 0 0, .int .i64 (q.1 : Nat), .int .i64 8]) := by
  rw [← ht]
  refine ⟨hf, by simp; omega, p, ?_, rfl⟩
  rw [List.getElem?_append_right (by omega), h8]
  rfl

set_option maxHeartbeats 1600000 in
set_option maxRecDepth 8000 in
theorem rscan_any (s : ByteArray) (hs : s.size ≤ 40000) (w : World) :
    Calls Try.prog 36 #[.string s] w (ScanPost s w) := by
  obtain ⟨i0, hi0, hz0, hz1, hz2⟩ := info_parts infoTok
  have hd : decide (40000 < (s.size : Int)) = false := by rw [decide_eq_false_iff_not]; omega
  go_enter Try.func36, Try.ntmps36
  go_wp2
  go_loopw [5] (fun i wr => ∃ k : Nat, k ≤ s.size ∧ i = .int .i64 k ∧ fine s k ∧ w = wr) (fun i _ => s.size - (intOf i).toNat)
  case atStart => exact ⟨0, Nat.zero_le _, rfl, fine_zero _, rfl⟩
  case round =>
    obtain ⟨k, hk, rfl, hfine, rfl⟩ := hrel
    by_cases hlt : k < s.size
    · cases hsp : spB s[k]
      · cases hpr : prB s[k]
        · have hbad : cls s[k].toNat = 0 := by
            have h1 := mt space_of.2 (by rw [hsp]; simp)
            have h2 := mt pr_of.2 (by rw [hpr]; simp)
            omega
          have Hb := Lib.hid hbad
          have Hsp := Lib.hid hsp
          have Hpr := Lib.hid hpr
          clear hbad hsp hpr
          go_wp2_with (first | (go_at_call 56; refine (space_any _ _).mono ?_; rintro e w' ⟨rfl, rfl⟩; rw [Hsp.out]) | (go_at_call 57; refine (printable_any _ _).mono ?_; rintro e w' ⟨rfl, rfl⟩; rw [Hpr.out]))
          go_ret3
          exact ⟨Below.refl _ _, .inl ⟨k, ⟨hlt, Hb.out, hfine⟩, rfl⟩⟩
        · have hf' := fine_succ hfine hlt (pr_of.1 hpr).2
          have Hsp := Lib.hid hsp
          have Hpr := Lib.hid hpr
          clear hsp hpr
          go_wp2_with (first | (go_at_call 56; refine (space_any _ _).mono ?_; rintro e w' ⟨rfl, rfl⟩; rw [Hsp.out]) | (go_at_call 57; refine (printable_any _ _).mono ?_; rintro e w' ⟨rfl, rfl⟩; rw [Hpr.out]))
          go_light
          exact ⟨⟨k + 1, by omega, by go_num, hf', trivial⟩, by simp [intOf]; omega⟩
      · have hf' := fine_succ hfine hlt (by rw [space_of.1 hsp]; omega)
        have Hsp := Lib.hid hsp
        clear hsp
        go_wp2_with (go_at_call 56; refine (space_any _ _).mono ?_; rintro e w' ⟨rfl, rfl⟩; rw [Hsp.out])
        go_light
        exact ⟨⟨k + 1, by omega, by go_num, hf', trivial⟩, by simp [intOf]; omega⟩
    · obtain rfl : k = s.size := by omega
      have Hf := Lib.hid hfine
      clear hfine
      go_wp2
      go_loopw [6, 7] (fun v i wr => ∃ k : Nat, k ≤ s.size ∧ i = .int .i64 k ∧ RScanRel s w.heap.size w v k wr) (fun _ i _ => s.size - (intOf i).toNat)
      case atStart =>
        exact ⟨0, Nat.zero_le _, rfl, [], World.ownsRow_made _ _ _ (Nat.le_refl _) (by simp [maxLen]) rfl, Nat.le_refl _, by simp, rfl, (Below.refl _ _).alloc (Nat.le_refl _) _, by simp⟩
      case round =>
        obtain ⟨i, hi, rfl, C, hown, hCi, hC8, ht, hbw, hBs⟩ := hrel
        obtain ⟨A, cp, rfl⟩ := own_slice hown
        by_cases hlt : i < s.size
        · cases hsp : spB s[i]
          · have hpr : prB s[i] = true := pr_of.2 ⟨(fun h => by rw [space_of.2 h] at hsp; cases hsp), Hf.out i hlt hlt⟩
            have Hw := Lib.hid (toks_word (byteAt s i hlt) hpr)
            have Hgt := endOf_gt (byteAt s i hlt) hpr
            have Hle := endOf_le (L := s.data.toList) (i := i) (by simp; omega)
            have Hle' : endOf s.data.toList i ≤ s.size := by simpa using Hle
            clear Hle
            obtain ⟨en, hen⟩ : ∃ en, en = endOf s.data.toList i := ⟨_, rfl⟩
            rw [← hen] at Hw Hgt Hle'
            have Hen := Lib.hid hen
            have Hsp := Lib.hid hsp
            have Hpr := Lib.hid hpr
            have Ht := Lib.hid ht
            clear hen hsp hpr ht
            obtain ⟨wo, rfl⟩ : ∃ wo : World, wo = wr := ⟨_, rfl⟩
            go_wp2_with (go_at_call 56; refine (space_any _ _).mono ?_; rintro e w' ⟨rfl, rfl⟩; rw [Hsp.out])
            go_loopw [8] (fun e wx => ∃ j : Nat, i ≤ j ∧ j ≤ s.size ∧ e = .int .i64 j ∧ Hid (endOf s.data.toList j = en) ∧ wo = wx) (fun e _ => s.size - (intOf e).toNat)
            case atStart => exact ⟨i, Nat.le_refl _, hi, rfl, Hen.out.symm, rfl⟩
            case round =>
              obtain ⟨j, hij, hj, rfl, hje, rfl⟩ := hrel
              by_cases hjl : j < s.size
              · cases hpj : prB s[j]
                · have hee : j = en := by rw [← hje.out]; exact (endOf_stop (fun b hb => by rw [byteAt s j hjl] at hb; injection hb with hb; subst hb; exact hpj)).symm
                  subst hee
                  have Hpj := Lib.hid hpj
                  clear hpj
                  have Ht2 := Lib.hid (show C ++ (i, j) :: toks s.data.toList j = toks s.data.toList 0 by rw [← Hw.out]; exact Ht.out)
                  by_cases h8 : C.length = 8000
                  · have h8' : ((C.length : Int) == 8000) = true := by rw [beq_iff_eq]; omega
                    have H8 := Lib.hid h8
                    clear h8 hown
                    go_wp2_with (go_at_call 57; refine (printable_any _ _).mono ?_; rintro e w' ⟨rfl, rfl⟩; rw [Hpj.out])
                    go_ret3
                    exact ⟨hbw, .inr (.inl (full_of H8.out Hf.out Ht2.out))⟩
                  · have h8' : ((C.length : Int) == 8000) = false := by rw [beq_eq_false_iff_ne]; omega
                    have h63 : C.length + 1 ≤ maxLen := by simp only [maxLen]; omega
                    have hby24 : (C.length + 1) * 24 ≤ 140737488355328 := by omega
                    have hbs2 : ∀ o, w.heap.size ≤ (wo.alloc o).heap.size := fun o => by simp; omega
                    go_wp2_with (first | (at_builtin; go_must (refine wpList_append_own _ rfl (.tmp 59) (.tmp 66) 23 rfl w.heap.size 33 i0 (.agg #[.string ⟨#[]⟩, .int .i64 0]) 2 24 Try.underlying23 hi0 hz0 hz1 hz2 rfl (by decide) _ _ _ rfl (hown.alloc _) ⟨wo.heap.size, 0, none⟩ 1 1 [.string (s.extract i j), .int .i64 (i : Nat)] rfl rfl (fun j u hu => two_new wo _ _ _ hu) (one_pair _ _) h63 hby24 (hbs2 _) ?_); intro v2 w2 hown2 hgrow2 _) | (go_at_call 57; refine (printable_any _ _).mono ?_; rintro e w' ⟨rfl, rfl⟩; rw [Hpj.out]))
                    go_light
                    exact ⟨⟨_, by omega, rfl, rscan_push hown hgrow2 hown2 (by omega) (by omega) Ht2.out hbw hBs⟩, by simp [intOf]; omega⟩
                · have hst := Lib.hid ((endOf_step (byteAt s j hjl) hpj).symm.trans hje.out)
                  have Hpj := Lib.hid hpj
                  clear hpj
                  go_wp2_with (go_at_call 57; refine (printable_any _ _).mono ?_; rintro e w' ⟨rfl, rfl⟩; rw [Hpj.out])
                  go_light
                  exact ⟨⟨j + 1, by omega, by omega, by go_num, hst, trivial⟩, by simp [intOf]; omega⟩
              · have hee : j = en := by rw [← hje.out]; exact (endOf_stop (fun b hb => by rw [List.getElem?_eq_none (by simp; omega)] at hb; cases hb)).symm
                subst hee
                have Ht2 := Lib.hid (show C ++ (i, j) :: toks s.data.toList j = toks s.data.toList 0 by rw [← Hw.out]; exact Ht.out)
                by_cases h8 : C.length = 8000
                · have h8' : ((C.length : Int) == 8000) = true := by rw [beq_iff_eq]; omega
                  have H8 := Lib.hid h8
                  clear h8 hown
                  go_wp2
                  go_ret3
                  exact ⟨hbw, .inr (.inl (full_of H8.out Hf.out Ht2.out))⟩
                · have h8' : ((C.length : Int) == 8000) = false := by rw [beq_eq_false_iff_ne]; omega
                  have h63 : C.length + 1 ≤ maxLen := by simp only [maxLen]; omega
                  have hby24 : (C.length + 1) * 24 ≤ 140737488355328 := by omega
                  have hbs2 : ∀ o, w.heap.size ≤ (wo.alloc o).heap.size := fun o => by simp; omega
                  go_wp2_with (at_builtin; go_must (refine wpList_append_own _ rfl (.tmp 59) (.tmp 66) 23 rfl w.heap.size 33 i0 (.agg #[.string ⟨#[]⟩, .int .i64 0]) 2 24 Try.underlying23 hi0 hz0 hz1 hz2 rfl (by decide) _ _ _ rfl (hown.alloc _) ⟨wo.heap.size, 0, none⟩ 1 1 [.string (s.extract i j), .int .i64 (i : Nat)] rfl rfl (fun j u hu => two_new wo _ _ _ hu) (one_pair _ _) h63 hby24 (hbs2 _) ?_); intro v2 w2 hown2 hgrow2 _)
                  go_light
                  exact ⟨⟨_, by omega, rfl, rscan_push hown hgrow2 hown2 (by omega) (by omega) Ht2.out hbw hBs⟩, by simp [intOf]; omega⟩
          · have hg := toks_gap (byteAt s i hlt) (sp_not_pr hsp)
            have Hg := Lib.hid hg
            have Hsp := Lib.hid hsp
            have Ht := Lib.hid ht
            have Hown := Lib.hid hown
            clear hsp hg ht hown
            go_wp2_with (go_at_call 56; refine (space_any _ _).mono ?_; rintro e w' ⟨rfl, rfl⟩; rw [Hsp.out])
            go_light
            exact ⟨⟨i + 1, by omega, by go_num, C, Hown.out, by omega, hC8, by rw [← Hg.out]; exact Ht.out, hbw, hBs⟩, by simp [intOf]; omega⟩
        · obtain rfl : i = s.size := by omega
          rw [toks_end (by simp), List.append_nil] at ht
          have Ht := Lib.hid ht
          have Hown := Lib.hid hown
          clear ht hown
          go_wp2
          go_ret3
          refine ⟨hbw, .inr (.inr ⟨Hf.out, by rw [← Ht.out]; exact hC8, _, rfl, ?_⟩)⟩
          rw [← Ht.out]
          exact Hown.out
end Go.Proofs.Ytmekdghnkkephaa.Tok
