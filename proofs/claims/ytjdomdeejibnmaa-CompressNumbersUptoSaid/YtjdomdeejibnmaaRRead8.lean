/- The reference's Read of compressed proofs' words: what it tells of any words. -/
import Derived.Test.YtjdomdeejibnmaaRead8
import Derived.Test.YtjdomdeejibnmaaRefLabels
import Derived.Test.YtjdomdeejibnmaaRefNums
namespace Go.Proofs.Ytjdomdeejibnmaa.Tok
open Go.RowKit Go.Proofs.Ytjdomdeejibnmaa

theorem below_drewN8 {B : Nat} {a w : World} (h : Below B a w) (n : Nat) : Below B a (w.drewN n) := ⟨h.os, h.tape, h.output, h.size, h.block⟩
theorem sum_take8 (l : List ByteArray) (m : Nat) : sumSz (l.take m) ≤ sumSz l := by
  have h : sumSz l = sumSz (l.take m) + sumSz (l.drop m) := by
    unfold sumSz
    rw [← List.sum_append, ← List.map_append, List.take_append_drop]
  omega
theorem sum_drop8 (l : List ByteArray) (m : Nat) : sumSz (l.drop m) ≤ sumSz l := by
  have h : sumSz l = sumSz (l.take m) + sumSz (l.drop m) := by
    unfold sumSz
    rw [← List.sum_append, ← List.map_append, List.take_append_drop]
  omega
/-- The letters joined so far. -/
def JoinTo (l : List ByteArray) (m : Nat) (T : ByteArray) : Prop := T.data.toList = ((l.take m).map (·.data.toList)).flatten ∧ T.size = sumSz (l.take m)
theorem JoinTo.next {l : List ByteArray} {m : Nat} {T : ByteArray} (h : JoinTo l m T) (hm : m < l.length) : JoinTo l (m + 1) (T ++ l[m]) := by
  have e : l.take (m + 1) = l.take m ++ [l[m]] := List.take_succ_eq_append_getElem hm
  refine ⟨?_, ?_⟩
  · rw [e, List.map_append, List.flatten_append, ← h.1]
    simp
  · unfold sumSz
    rw [e, List.map_append, List.sum_append, ByteArray.size_append, h.2]
    simp [sumSz]
theorem JoinTo.le {ss : List ByteArray} {k m : Nat} {T : ByteArray} (h : JoinTo (ss.drop k) m T) : T.size ≤ sumSz ss := by
  rw [h.2]
  exact Nat.le_trans (sum_take8 _ _) (sum_drop8 _ _)
theorem closeB_list : closeB.toList = [41] := by decide +kernel
theorem sizeRCode : (Try.prog.info? 32).map (·.size) = some 2 := by kernel_rfl
set_option maxHeartbeats 3200000 in
set_option maxRecDepth 8000 in
theorem rread_any (A : Option Addr) (n c : Nat) (ss : List ByteArray) (w : World) (hn : n ≤ 1000000) (hnc : n ≤ c) (hz : sumSz ss ≤ 1048576) (hr : Rd w w.heap.size 1 A n (ss.map Value.string)) :
    Calls Try.prog 9 #[.slice A n c] w (ReadGood ss w) := by
  have hlen : ss.length = n := by have := hr.len; simp at this; omega
  have Hlen := Lib.hid hlen
  have HI : Hid (∀ o, Calls Try.prog 13 #[.slice A n c] (w.alloc o) fun e w' => e = .returned (.bool (isB ss)) ∧ w.alloc o = w') := fun o => by
    have hb : Below w.heap.size w (w.alloc o) := (Below.refl _ _).alloc (Nat.le_refl _) o
    exact ris_any A n c ss _ hn ((hr.below hb).more hb.size)
  have Hr := Lib.hid hr
  have Hz := Lib.hid hz
  clear hr hz hlen
  go_enter Try.func9, Try.ntmps9
  have Hrow0 := Lib.hid (heap_alloc_new w (.cells #[.slice none 0 0, .slice none 0 0] 32))
  have Hb0 : Hid (Below w.heap.size w (w.alloc (.cells #[.slice none 0 0, .slice none 0 0] 32))) := (Below.refl _ _).alloc (Nat.le_refl _) _
  cases hb : isB ss
  · have Hb := Lib.hid hb
    have Hd := Lib.hid (show DivIs ss none from .inl hb)
    clear hb
    go_wp2_with (first | (go_at_call 13; refine (HI.out _).mono ?_; rintro e w' ⟨rfl, rfl⟩; rw [Hb.out]) | (refine wpList_store_row rfl 32 (.tmp 2) (.tmp 13) rfl w.heap.size #[.slice none 0 0, .slice none 0 0] rfl rfl 32 #[.slice none 0 0, .slice none 0 0] Hrow0.out sizeRCode rfl (by simp [Value.oneCell']) ?_))
    (try simp only [Exit.inBlock, Exit.then])
    refine bodyPost_ret (results_row_tmp8 rfl _ _ w.heap.size 32 #[.slice none 0 0, .slice none 0 0] (0, 0) _ rfl (setRow_heap _ _ _ _ _ _ Hrow0.out) Try.underlying32 rfl sizeRCode) rfl ?_
    exact ⟨[], [], 20, _, _, .inl ⟨Hd.out, rfl, rfl, rfl⟩, rfl, World.ownsRow_nil _ _ _ _, World.ownsRow_nil _ _ _ _, setRow_below8 Hb0.out (Nat.le_refl _) _⟩
  · have Hb := Lib.hid hb
    have hn1 : 1 ≤ n := by
      cases ss with
      | nil => cases hb
      | cons s r => have := Hlen.out; simp at this; omega
    have Hst : Hid (closeB ∉ ss.take 1) := by
      cases ss with
      | nil => show _ ∉ _; simp
      | cons s r =>
        have h2 : (s.toList == [40]) = true := hb
        show _ ∉ _
        simp
        intro h3
        rw [← h3] at h2
        revert h2
        decide +kernel
    clear hb
    obtain ⟨w0, hw0⟩ : ∃ w0, w0 = w.alloc (.cells #[.slice none 0 0, .slice none 0 0] 32) := ⟨_, rfl⟩
    have HW := Lib.hid hw0
    rw [← hw0] at Hrow0 Hb0
    have HI0 := Lib.hid (HI.out (.cells #[.slice none 0 0, .slice none 0 0] 32))
    go_wp2_with (go_at_call 13; refine (HI.out _).mono ?_; rintro e w' ⟨rfl, rfl⟩; rw [Hb.out])
    rw [← hw0]
    clear hw0
    have R0 : Hid (Rd w0 w.heap.size 1 A n (ss.map Value.string)) := Hr.out.below Hb0.out
    clear HI HI0 HW
    go_loopw [4] (fun i wr => ∃ k : Nat, 1 ≤ k ∧ k ≤ n ∧ i = .int .i64 k ∧ Hid (closeB ∉ ss.take k) ∧ w0 = wr) (fun i _ => n - (intOf i).toNat)
    case atStart => exact ⟨1, Nat.le_refl _, hn1, rfl, Hst, rfl⟩
    case round =>
      obtain ⟨k, hk1, hk, rfl, hno, rfl⟩ := hrel
      by_cases hlt : k < n
      · obtain ⟨bq, off, rfl, hbb, hc⟩ := R0.out.pos (by omega)
        have hkl : k < ss.length := by have := Hlen.out; omega
        have hcell : w0.cell? ⟨bq, off + k, none⟩ = some (.string ss[k]) := hc k (.string ss[k]) (by simp [hkl])
        have Hnx := Lib.hid (show ss.take (k + 1) = ss.take k ++ [ss[k]] from List.take_succ_eq_append_getElem hkl)
        obtain ⟨s, hs⟩ : ∃ s, s = ss[k] := ⟨_, rfl⟩
        rw [← hs] at hcell Hnx
        have Hs := Lib.hid hs
        have HC0 := Lib.hid hc
        clear hs hc
        have hkc : k ≤ c := by omega
        by_cases he : s = closeB
        · have e1 : (s.toList == [41]) = true := by rw [he, closeB_list]; rfl
          have Hf : Hid (FirstAt ss closeB k) := ⟨hkl, by rw [← Hs.out, he], hno.out⟩
          have Hk1 : Hid (1 ≤ k) := hk1
          have R1 : Hid (Rd w0 w.heap.size 1 (some ⟨bq, off + 1, none⟩) (k - 1) (((ss.drop 1).take (k - 1)).map Value.string)) := by
            have := R0.out.sub hbb 1 (k - 1) (by omega)
            rwa [← List.map_drop, ← List.map_take] at this
          have R2 : Hid (Rd w0 w.heap.size 1 (some ⟨bq, off + (k + 1), none⟩) (n - (k + 1)) ((ss.drop (k + 1)).map Value.string)) := by
            have := R0.out.sub hbb (k + 1) (n - (k + 1)) (by omega)
            rwa [← List.map_drop, ← List.map_take, List.take_of_length_le (by have := Hlen.out; simp; omega)] at this
          have Hs1 : Hid (∀ s ∈ (ss.drop 1).take (k - 1), s.size ≤ 9223372036854775807) := fun s hs => by
            have := sum_mem (List.drop_subset _ _ (List.take_subset _ _ hs))
            have := Hz.out
            omega
          have HC : Hid (Calls Try.prog 23 #[.slice (some ⟨bq, off + 1, none⟩) (k - 1) (c - 1)] w0 fun e w' => BoolIs e (LabsOk ((ss.drop 1).take (k - 1))) ∧ ∃ q, w' = w0.drewN q) :=
            rlabels_any (some ⟨bq, off + 1, none⟩) (k - 1) (c - 1) ((ss.drop 1).take (k - 1)) w0 (by omega) (by omega) Hs1.out (R1.out.more Hb0.out.size)
          have g1 : ((k : Int) == (n : Int)) = false := by rw [beq_eq_false_iff_ne]; omega
          clear he
          by_cases hok : LabsOk ((ss.drop 1).take (k - 1))
          · have Hok := Lib.hid hok
            clear hok
            have Hd := Lib.hid (show DivIs ss (some ((ss.drop 1).take (k - 1), ((ss.drop (k + 1)).map (·.data.toList)).flatten)) from ⟨Hb.out, k, Hk1.out, Hf.out, Hok.out, rfl, rfl⟩)
            go_wp2_with (go_at_call 23; refine HC.out.mono ?_; rintro e w' ⟨hbo, q, rfl⟩; obtain rfl := hbo.of Hok.out; clear hbo)
            have hb2 := Lib.hid (below_drewN8 Hb0.out q)
            have Hrow2 : Hid ((w0.drewN q).heap[w.heap.size]? = some (.cells #[.slice none 0 0, .slice none 0 0] 32 (0, 0))) := Hrow0.out
            obtain ⟨w2, hw2⟩ : ∃ w2, w2 = w0.drewN q := ⟨_, rfl⟩
            have HC2 : Hid (∀ (j : Nat) (u : Value), (ss.map Value.string)[j]? = some u → w2.cell? ⟨bq, off + j, none⟩ = some u) := by rw [hw2]; exact fun j u h => HC0.out j u h
            have R12 : Hid (Rd w2 w.heap.size 1 (some ⟨bq, off + 1, none⟩) (k - 1) (((ss.drop 1).take (k - 1)).map Value.string)) := by rw [hw2]; exact R1.out.below (below_drewN8 (Below.refl _ _) q)
            rw [← hw2] at hb2 Hrow2 ⊢
            clear hw2
            go_loopw [5, 6] (fun t i wr => ∃ (j : Nat) (T : ByteArray), k + 1 ≤ j ∧ j ≤ n ∧ i = .int .i64 j ∧ t = .string T ∧ Hid (JoinTo (ss.drop (k + 1)) (j - (k + 1)) T) ∧ w2 = wr) (fun _ i _ => n - (intOf i).toNat)
            case atStart => exact ⟨k + 1, ⟨#[]⟩, Nat.le_refl _, by omega, by go_num, rfl, by rw [Nat.sub_self]; exact ⟨rfl, rfl⟩, rfl⟩
            case round =>
              obtain ⟨j, T, hj1, hj, rfl, rfl, hT, rfl⟩ := hrel
              by_cases hjlt : j < n
              · have hjl : j < ss.length := by have := Hlen.out; omega
                have hcell2 := HC2.out j (.string ss[j]) (by simp [hjl])
                have Hnext : Hid (JoinTo (ss.drop (k + 1)) (j + 1 - (k + 1)) (T ++ ss[j])) := by
                  have := hT.out.next (by simp; omega)
                  rw [List.getElem_drop] at this
                  have e : k + 1 + (j - (k + 1)) = j := by omega
                  simp only [e] at this
                  rwa [show j + 1 - (k + 1) = j - (k + 1) + 1 by omega]
                have hz1 : T.size + (ss[j]).size ≤ 1048576 := by have h := Hnext.out.le; rw [ByteArray.size_append] at h; have := Hz.out; omega
                obtain ⟨s2, hs2⟩ : ∃ s2, s2 = ss[j] := ⟨_, rfl⟩
                rw [← hs2] at hcell2 Hnext hz1
                clear hs2
                have hjc : j ≤ c := by omega
                go_wp2
                go_light
                exact ⟨⟨j + 1, _, by omega, by omega, by go_num, rfl, Hnext.out, trivial⟩, by simp [intOf]; omega⟩
              · obtain rfl : j = n := by omega
                have HT : Hid (T.data.toList = ((ss.drop (k + 1)).map (·.data.toList)).flatten) := by
                  have h := hT.out.1
                  rwa [List.take_of_length_le (by have := Hlen.out; simp; omega)] at h
                have HD : Hid (DivIs ss (some ((ss.drop 1).take (k - 1), T.data.toList))) := by
                  rw [HT.out]
                  exact Hd.out
                have HTl := Lib.hid (show T.data.toList.length = T.size from Array.length_toList)
                have HN := Lib.hid (rnumbers_any T w2)
                clear hT
                go_wp2_with fail
                go_at_call 24
                refine HN.out.mono ?_
                rintro e w3 ⟨A2, c2, o, a, er, rfl, hnm, hown, hb3⟩
                have Hn := Lib.hid hnm
                have Ho := Lib.hid (own_base8 hown hb2.out.size)
                have Hb3 := Lib.hid (hb2.out.trans (hb3.mono hb2.out.size))
                have Hrow3 := Lib.hid ((hb3.block w.heap.size (Array.getElem?_eq_some_iff.1 Hrow2.out).1).trans Hrow2.out)
                have R13 := Lib.hid (R12.out.below (hb3.mono hb2.out.size))
                clear hnm hown hb3
                by_cases her : er = 0
                · subst her
                  have HIs : Hid (RdIs ss ((ss.drop 1).take (k - 1)) o 0) := by
                    rcases Hn.out with ⟨_, _, _, h⟩ | ⟨h1, ⟨_, _, _, h⟩ | ⟨h2, _, _⟩⟩
                    · omega
                    · omega
                    · exact .inr ⟨_, _, HD.out, .inr ⟨by rw [HTl.out]; exact h1, .inr ⟨h2, rfl, rfl⟩⟩⟩
                  have HG : Hid (∀ ob v4 w4, w4.ownsRow w3.heap.size 9 1 v4 (0 + (k - 1)) ([] ++ ((ss.drop 1).take (k - 1)).map Value.string) → (w3.alloc ob).grownBy w4 (Value.slice (some ⟨w3.heap.size, 0, none⟩) 0 0).ownBlock → ∃ A4 c4, v4 = .slice A4 (k - 1) c4 ∧ w4.ownsRow w.heap.size 9 1 v4 (k - 1) (((ss.drop 1).take (k - 1)).map Value.string) ∧ w4.ownsRow w.heap.size 3 1 (.slice A2 o.length c2) o.length (o.map (Value.int .i64)) ∧ Below w.heap.size w w4 ∧ w4.heap[w.heap.size]? = some (.cells #[.slice none 0 0, .slice none 0 0] 32 (0, 0))) := fun ob v4 w4 h1 h2 => by
                    have b4 : Below w3.heap.size w3 w4 := ((Below.refl _ _).alloc (Nat.le_refl _) ob).grown h2 (by simp) (fun q hq => by have hq' : some w3.heap.size = some q := hq; injection hq' with hq'; omega)
                    rw [Nat.zero_add, List.nil_append] at h1
                    have hsh : ∃ A4 c4, v4 = .slice A4 (k - 1) c4 := by
                      rcases h1.2 with ⟨e1, e2⟩ | ⟨g, cap, cur, e1, _⟩
                      · exact ⟨none, 0, by rw [e1, e2]⟩
                      · exact ⟨_, _, e1⟩
                    obtain ⟨A4, c4, e⟩ := hsh
                    exact ⟨A4, c4, e, own_base8 h1 Hb3.out.size, own_below Ho.out b4, Hb3.out.trans (b4.mono Hb3.out.size), (b4.block _ (Array.getElem?_eq_some_iff.1 Hrow3.out).1).trans Hrow3.out⟩
                  have RA : Hid (∀ ob, Rd (w3.alloc ob) w3.heap.size 1 (some ⟨bq, off + 1, none⟩) (k - 1) (((ss.drop 1).take (k - 1)).map Value.string)) := fun ob => (R13.out.more Hb3.out.size).below ((Below.refl _ _).alloc (Nat.le_refl _) _)
                  have H1 : Hid (∀ u ∈ ((ss.drop 1).take (k - 1)).map Value.string, u.oneCell' = true) := fun u hu => by
                    obtain ⟨s, _, rfl⟩ := List.mem_map.1 hu
                    rfl
                  have Hll : Hid (((ss.drop 1).take (k - 1)).length = k - 1) := by have := Hlen.out; show _ = _; simp; omega
                  have h63 : Hid (0 + (k - 1) ≤ maxLen) := by show _ ≤ _; simp only [maxLen]; omega
                  have hby : Hid ((0 + (k - 1)) * 16 ≤ 140737488355328) := by show _ ≤ _; omega
                  obtain ⟨i0, hi0, hz0, hz1, hz2⟩ := info_parts infoStr
                  clear Hn HN HD HT HTl Hd
                  go_wp2_with (first
                    | (at_builtin; go_loud (refine wpList_append_rd _ rfl (.tmp 63) (.tmp 66) 22 rfl w3.heap.size 9 i0 (.string ⟨#[]⟩) 1 16 Try.underlying22 hi0 hz0 hz1 hz2 rfl (by decide) _ _ _ rfl (World.ownsRow_made w3 #[] 0 (Nat.le_refl _) (by simp [maxLen]) rfl) _ (some ⟨bq, off + 1, none⟩) (k - 1) (c - 1) _ rfl (RA.out _) H1.out h63.out hby.out (by simp) ?_); intro v4 w4 hown4 hgrow4; obtain ⟨A4, c4, rfl, q1, q2, q3, q4⟩ := HG.out _ _ _ hown4 hgrow4; have Q1 := Lib.hid q1; have Q2 := Lib.hid q2; have Q3 := Lib.hid q3; have Q4 := Lib.hid q4; clear hown4 hgrow4 q1 q2 q3 q4)
                    | (refine wpList_store_row rfl 32 (.tmp 2) (.tmp 69) rfl w.heap.size #[.slice A4 (k - 1) c4, .slice A2 o.length c2] rfl rfl 32 #[.slice none 0 0, .slice none 0 0] Q4.out sizeRCode rfl (by simp [Value.oneCell']) ?_))
                  (try simp only [Exit.inBlock, Exit.then])
                  refine bodyPost_ret (results_row_tmp8 rfl _ _ w.heap.size 32 #[.slice A4 (k - 1) c4, .slice A2 o.length c2] (0, 0) _ rfl (setRow_heap _ _ _ _ _ _ Q4.out) Try.underlying32 rfl sizeRCode) rfl ?_
                  refine ⟨(ss.drop 1).take (k - 1), o, 0, _, _, HIs.out, rfl, ?_, own_row8 Q2.out Q4.out (by decide), setRow_below8 Q3.out (Nat.le_refl _) _⟩
                  rw [Hll.out]
                  exact own_row8 Q1.out Q4.out (by decide)
                · have HIs : Hid (RdIs ss [] [] er) := by
                    rcases Hn.out with ⟨h0, _, _, h⟩ | ⟨h1, ⟨o', h2, _, h⟩ | ⟨_, _, h⟩⟩
                    · exact .inr ⟨_, _, HD.out, .inl ⟨by rw [HTl.out]; exact h0, h, rfl, rfl⟩⟩
                    · exact .inr ⟨_, _, HD.out, .inr ⟨by rw [HTl.out]; exact h1, .inl ⟨o', a, h2, h, rfl, rfl⟩⟩⟩
                    · exact absurd h her
                  have g2 : ((er : Int) == 0) = false := by rw [beq_eq_false_iff_ne]; omega
                  have g3 : (er == 0) = false := by rw [beq_eq_false_iff_ne]; omega
                  clear her
                  go_wp2_with (refine wpList_store_row rfl 32 (.tmp 2) (.tmp 61) rfl w.heap.size #[.slice none 0 0, .slice none 0 0] rfl rfl 32 #[.slice none 0 0, .slice none 0 0] Hrow3.out sizeRCode rfl (by simp [Value.oneCell']) ?_)
                  (try simp only [Exit.inBlock, Exit.then])
                  refine bodyPost_ret (results_row_tmp8 rfl _ _ w.heap.size 32 #[.slice none 0 0, .slice none 0 0] (0, 0) _ rfl (setRow_heap _ _ _ _ _ _ Hrow3.out) Try.underlying32 rfl sizeRCode) rfl ?_
                  exact ⟨[], [], er, _, _, HIs.out, rfl, World.ownsRow_nil _ _ _ _, World.ownsRow_nil _ _ _ _, setRow_below8 Hb3.out (Nat.le_refl _) _⟩
          · have Hok := Lib.hid hok
            have Hd := Lib.hid (show DivIs ss none from .inr (.inr ⟨k, Hk1.out, Hf.out, hok⟩))
            clear hok
            go_wp2_with (first | (go_at_call 23; refine HC.out.mono ?_; rintro e w' ⟨hbo, q, rfl⟩; obtain rfl := hbo.not Hok.out; clear hbo) | (refine wpList_store_row rfl 32 (.tmp 2) (.tmp 38) rfl w.heap.size #[.slice none 0 0, .slice none 0 0] rfl rfl 32 #[.slice none 0 0, .slice none 0 0] Hrow0.out sizeRCode rfl (by simp [Value.oneCell']) ?_))
            (try simp only [Exit.inBlock, Exit.then])
            refine bodyPost_ret (results_row_tmp8 rfl _ _ w.heap.size 32 #[.slice none 0 0, .slice none 0 0] (0, 0) _ rfl (setRow_heap _ _ _ _ _ _ Hrow0.out) Try.underlying32 rfl sizeRCode) rfl ?_
            exact ⟨[], [], 20, _, _, .inl ⟨Hd.out, rfl, rfl, rfl⟩, rfl, World.ownsRow_nil _ _ _ _, World.ownsRow_nil _ _ _ _, setRow_below8 (below_drewN8 Hb0.out _) (Nat.le_refl _) _⟩
        · have e1 : (s.toList == [41]) = false := by rw [← closeB_list]; exact str_ne he
          have Hn2 := Lib.hid (show closeB ∉ ss.take (k + 1) by rw [Hnx.out]; intro h; rcases List.mem_append.1 h with h | h; exact hno.out h; simp at h; exact he h.symm)
          clear he
          go_wp2
          go_light
          exact ⟨⟨k + 1, by omega, by omega, by go_num, Hn2.out, trivial⟩, by simp [intOf]; omega⟩
      · obtain rfl : k = n := by omega
        have Hd := Lib.hid (show DivIs ss none from .inr (.inl (by have := hno.out; rwa [List.take_of_length_le (by have := Hlen.out; omega)] at this)))
        go_wp2_with (refine wpList_store_row rfl 32 (.tmp 2) (.tmp 38) rfl w.heap.size #[.slice none 0 0, .slice none 0 0] rfl rfl 32 #[.slice none 0 0, .slice none 0 0] Hrow0.out sizeRCode rfl (by simp [Value.oneCell']) ?_)
        (try simp only [Exit.inBlock, Exit.then])
        refine bodyPost_ret (results_row_tmp8 rfl _ _ w.heap.size 32 #[.slice none 0 0, .slice none 0 0] (0, 0) _ rfl (setRow_heap _ _ _ _ _ _ Hrow0.out) Try.underlying32 rfl sizeRCode) rfl ?_
        exact ⟨[], [], 20, _, _, .inl ⟨Hd.out, rfl, rfl, rfl⟩, rfl, World.ownsRow_nil _ _ _ _, World.ownsRow_nil _ _ _ _, setRow_below8 Hb0.out (Nat.le_refl _) _⟩
end Go.Proofs.Ytjdomdeejibnmaa.Tok
