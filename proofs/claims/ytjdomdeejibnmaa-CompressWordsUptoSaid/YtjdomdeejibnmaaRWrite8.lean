/- The reference's Write of a code. -/
import Derived.Test.YtjdomdeejibnmaaWriteMath8
import Derived.Test.YtjdomdeejibnmaaRRead8
import Derived.Test.YtjdomdeejibnmaaRefLetters
namespace Go.Proofs.Ytjdomdeejibnmaa.Tok
open Go.RowKit Go.Proofs.Ytjdomdeejibnmaa

def WriteGood (ss : List ByteArray) (l : List Int) (width : Int) (w : World) (e : Ending) (w' : World) : Prop :=
  ∃ (ws : List ByteArray) (er : Nat) (v : Value), WrIs ss l width ws er ∧ e = .returned (.tuple #[v, .int .i64 (er : Nat)]) ∧ w'.ownsRow w.heap.size 9 1 v ws.length (ws.map Value.string) ∧ Below w.heap.size w w'
theorem letV_ok {x : Int} (h1 : 1 ≤ x) (h2 : x ≤ 1000000) : letV x = .tuple #[.string (mkS (wrF x)), .int .i64 0] := by
  unfold letV wrF
  rw [if_pos ⟨h1, h2⟩, if_neg (by omega), if_neg (by omega)]
  rfl
theorem mk_list (b : List UInt8) : (mkS b).data.toList = b := rfl
theorem mk_size (b : List UInt8) : (mkS b).size = b.length := by show b.toArray.size = _; simp
/-- What is known of a code that lies in a block of the call's own, in any later world. -/
structure CodeAt (B : Nat) (A1 : Option Addr) (n1 c1 : Nat) (A2 : Option Addr) (n2 c2 : Nat) (ss : List ByteArray) (l : List Int) (wr : World) : Prop where
  c0 : wr.cell? ⟨B, 0, none⟩ = some (.slice A1 n1 c1)
  c1 : wr.cell? ⟨B, 1, none⟩ = some (.slice A2 n2 c2)
  r1 : Rd wr B 1 A1 n1 (ss.map Value.string)
  r2 : Rd wr B 1 A2 n2 (l.map (Value.int .i64))
  lt : B < wr.heap.size
theorem CodeAt.below {B n1 k1 n2 k2 : Nat} {A1 A2 : Option Addr} {ss : List ByteArray} {l : List Int} {wr w' : World} (h : CodeAt B A1 n1 k1 A2 n2 k2 ss l wr) (hb : Below wr.heap.size wr w') : CodeAt B A1 n1 k1 A2 n2 k2 ss l w' :=
  have hlt := h.lt
  ⟨(hb.cell (p := ⟨B, 0, none⟩) h.lt).trans h.c0, (hb.cell (p := ⟨B, 1, none⟩) h.lt).trans h.c1, h.r1.below (hb.mono (by omega)), h.r2.below (hb.mono (by omega)), by have := hb.size; omega⟩
theorem CodeAt.new {n1 k1 n2 k2 : Nat} {A1 A2 : Option Addr} {ss : List ByteArray} {l : List Int} {w : World} {T : TypeId} (hr1 : Rd w w.heap.size 1 A1 n1 (ss.map Value.string)) (hr2 : Rd w w.heap.size 1 A2 n2 (l.map (Value.int .i64))) :
    CodeAt w.heap.size A1 n1 k1 A2 n2 k2 ss l (w.alloc (.cells #[.slice A1 n1 k1, .slice A2 n2 k2] T)) := by
  have hr := heap_alloc_new w (.cells #[.slice A1 n1 k1, .slice A2 n2 k2] T)
  exact ⟨(cell_of_row _ _ 0 _ _ _ hr).trans rfl, (cell_of_row _ _ 1 _ _ _ hr).trans rfl, hr1.alloc (Nat.le_refl _) _, hr2.alloc (Nat.le_refl _) _, by simp⟩
theorem str_cells (ss : List ByteArray) : ∀ u ∈ ss.map Value.string, u.oneCell' = true := fun u hu => by
  obtain ⟨s, _, rfl⟩ := List.mem_map.1 hu
  rfl
theorem one_new8 (w : World) (t : TypeId) (a : Value) {j : Nat} {u : Value} (h : [a][j]? = some u) : (w.alloc (.cells #[a] t)).cell? ((⟨w.heap.size, 0, none⟩ : Addr).add j) = some u := by
  rw [add_zero_block, cell_of_row _ _ _ _ _ _ (heap_alloc_new w _)]
  simpa using h
theorem one_str8 (a : ByteArray) : ∀ u ∈ [Value.string a], u.oneCell' = true := by
  intro u hu
  rcases List.mem_cons.1 hu with rfl | hu
  · rfl
  · cases hu
theorem ext_chunk {T : ByteArray} {i W hi : Nat} (h : hi = min (i + W) T.size) : T.extract i hi = mkS ((T.data.toList.drop i).take W) := by
  have hl : T.data.toList.length = T.size := Array.length_toList
  apply ByteArray.ext
  apply Array.ext'
  rw [extract_list]
  show _ = (T.data.toList.drop i).take W
  subst h
  rcases Nat.le_total (i + W) T.size with h1 | h1
  · rw [Nat.min_eq_left h1, Nat.add_sub_cancel_left]
  · rw [Nat.min_eq_right h1, List.take_of_length_le (by simp), List.take_of_length_le (by simp; omega)]
/-- Between two words. -/
structure ChunkAt (ss : List ByteArray) (bs : List UInt8) (W B : Nat) (w : World) (v : Value) (i f : Nat) (pre : List (List UInt8)) (wr : World) : Prop where
  eq : pre ++ chunksN W f (bs.drop i) = chunksF W bs
  fuel : bs.length - i ≤ f
  own : wr.ownsRow B 9 1 v (ss.length + 2 + pre.length) ((openB :: ss ++ closeB :: pre.map mkS).map Value.string)
  bel : Below B w wr
  siz : B ≤ wr.heap.size
theorem ChunkAt.len {ss : List ByteArray} {bs : List UInt8} {W B i f : Nat} {w wr : World} {v : Value} {pre : List (List UInt8)} (h : ChunkAt ss bs W B w v i f pre wr) : pre.length ≤ bs.length := by
  have h1 := congrArg List.length h.eq
  have h2 := chunks_len W bs.length bs
  rw [List.length_append] at h1
  unfold chunksF at h1
  omega
theorem ChunkAt.next {ss : List ByteArray} {bs : List UInt8} {W B i f : Nat} {w wr w' : World} {v v' : Value} {pre : List (List UInt8)} (h : ChunkAt ss bs W B w v i f pre wr) (hi : i < bs.length) (hW : 1 ≤ W)
    (hown : w'.ownsRow B 9 1 v' (ss.length + 2 + pre.length + 1) ((openB :: ss ++ closeB :: pre.map mkS).map Value.string ++ [.string (mkS ((bs.drop i).take W))])) (hb : Below B w w') (hs : B ≤ w'.heap.size) :
    ∃ f', ChunkAt ss bs W B w v' (i + W) f' (pre ++ [(bs.drop i).take W]) w' := by
  have hf := h.fuel
  obtain ⟨f', rfl⟩ : ∃ f', f = f' + 1 := ⟨f - 1, by omega⟩
  have he := h.eq
  have hne : bs.drop i ≠ [] := fun e => by have := congrArg List.length e; simp at this; omega
  rw [chunks_cons hne, List.drop_drop] at he
  refine ⟨f', by rw [List.append_assoc]; exact he, by omega, ?_, hb, hs⟩
  have e1 : ss.length + 2 + (pre ++ [(bs.drop i).take W]).length = ss.length + 2 + pre.length + 1 := by simp; omega
  have e2 : (openB :: ss ++ closeB :: (pre ++ [(bs.drop i).take W]).map mkS).map Value.string = (openB :: ss ++ closeB :: pre.map mkS).map Value.string ++ [.string (mkS ((bs.drop i).take W))] := by simp
  rw [e1, e2]
  exact hown
theorem ChunkAt.done {ss : List ByteArray} {bs : List UInt8} {W B i f : Nat} {w wr : World} {v : Value} {pre : List (List UInt8)} (h : ChunkAt ss bs W B w v i f pre wr) (hi : bs.length ≤ i) : pre = chunksF W bs := by
  have he := h.eq
  rwa [List.drop_eq_nil_of_le hi, chunks_nil, List.append_nil] at he

set_option maxHeartbeats 3200000 in
set_option maxRecDepth 8000 in
theorem rwrite_any (A1 : Option Addr) (n1 k1 : Nat) (A2 : Option Addr) (n2 k2 : Nat) (ss : List ByteArray) (l : List Int) (width : Int) (w : World) (hn1 : n1 ≤ 100) (hk1 : n1 ≤ k1) (hn2 : n2 ≤ 600) (hz : sumSz ss ≤ 3000)
    (hr1 : Rd w w.heap.size 1 A1 n1 (ss.map Value.string)) (hr2 : Rd w w.heap.size 1 A2 n2 (l.map (Value.int .i64))) :
    Calls Try.prog 11 #[.agg #[.slice A1 n1 k1, .slice A2 n2 k2], .int .i64 width] w (WriteGood ss l width w) := by
  obtain ⟨w0, hw0⟩ : ∃ w0, w0 = w.alloc (.cells #[.slice A1 n1 k1, .slice A2 n2 k2] 32) := ⟨_, rfl⟩
  have Hlen1 := Lib.hid (show ss.length = n1 by have := hr1.len; simp at this; omega)
  have Hlen2 := Lib.hid (show l.length = n2 by have := hr2.len; simp at this; omega)
  have HC := Lib.hid (CodeAt.new (T := 32) (k1 := k1) (k2 := k2) hr1 hr2)
  have HB0 : Hid (Below w.heap.size w w0) := by rw [hw0]; exact (Below.refl _ _).alloc (Nat.le_refl _) _
  rw [← hw0] at HC
  have Hs1 : Hid (∀ s ∈ ss, s.size ≤ 9223372036854775807) := fun s hs => by have := sum_mem hs; omega
  clear hr1 hr2 hz
  obtain ⟨i0, hi0, hz0, hz1, hz2⟩ := info_parts infoStr
  go_enter Try.func11, Try.ntmps11
  go_wp2_with fail
  rw [← hw0]
  refine (rlabels_any A1 n1 k1 ss w0 (by omega) hk1 Hs1.out (HC.out.r1.more HB0.out.size)).mono ?_
  rintro e w1 ⟨hbi, q, rfl⟩
  clear hw0
  have Hb1 := Lib.hid (below_drewN8 HB0.out q)
  have HC1 := Lib.hid (HC.out.below (below_drewN8 (Below.refl _ _) q))
  obtain ⟨w2, hw2⟩ : ∃ w2, w2 = w0.drewN q := ⟨_, rfl⟩
  rw [← hw2] at Hb1 HC1 ⊢
  clear hw2 HC HB0
  have c0 := HC1.out.c0
  have c1 := HC1.out.c1
  have hlt := HC1.out.lt
  by_cases hlok : LabsOk ss
  · obtain rfl := hbi.of hlok
    have Hlok := Lib.hid hlok
    clear hlok hbi
    go_wp2_with fail
    refine (rnumsOk_any A2 n2 k2 l w2 (by omega) (HC1.out.r2.more (by omega))).mono ?_
    rintro e w' ⟨hbi3, rfl⟩
    by_cases hnu : NumOk l
    · obtain rfl := hbi3.of hnu
      have Hnu := Lib.hid hnu
      clear hnu hbi3
      go_wp2
      go_loopw [6, 7] (fun t i wr => ∃ (k : Nat) (T : ByteArray), k ≤ n2 ∧ i = .int .i64 k ∧ t = .string T ∧ Hid (T.data.toList = codeF (l.take k)) ∧ T.size ≤ 8 * k ∧ w2 = wr) (fun _ i _ => n2 - (intOf i).toNat)
      case atStart => exact ⟨0, ⟨#[]⟩, Nat.zero_le _, rfl, rfl, rfl, Nat.le_refl _, rfl⟩
      case round =>
        obtain ⟨k, T, hk, rfl, rfl, hT, hTs, rfl⟩ := hrel
        by_cases hlt2 : k < n2
        · have hkl : k < l.length := by have := Hlen2.out; omega
          obtain ⟨bL, oL, rfl, hbL, hcL⟩ := HC1.out.r2.pos (by omega)
          have hcell := hcL k (.int .i64 l[k]) (by simp [hkl])
          obtain ⟨hx1, hx2⟩ := Hnu.out.le hkl
          have Hct := Lib.hid (code_take hkl)
          have hwl := wr_len hx2
          obtain ⟨x, hx⟩ : ∃ x, x = l[k] := ⟨_, rfl⟩
          rw [← hx] at hcell hx1 hx2 Hct hwl
          clear hx hcL
          have Hnext : Hid (∀ S : ByteArray, S.data.toList = wrF x → (T ++ S).data.toList = codeF (l.take (k + 1))) := fun S hS => by
            rw [Hct.out, ← hT.out, ← hS]
            simp
          by_cases e0 : x = 0
          · subst e0
            have H1 := Lib.hid (Hnext.out ⟨#[90]⟩ rfl)
            have hz9 : T.size + (⟨#[90]⟩ : ByteArray).size ≤ 8 * (k + 1) := by show T.size + 1 ≤ _; omega
            clear hT Hct hwl
            go_wp2
            go_light
            exact ⟨⟨k + 1, _, by omega, by go_num, rfl, H1.out, by rw [ByteArray.size_append]; exact hz9, trivial⟩, by simp [intOf]; omega⟩
          · have g0 : (x == 0) = false := by rw [beq_eq_false_iff_ne]; exact e0
            by_cases e1 : x = -1
            · subst e1
              have H1 := Lib.hid (Hnext.out ⟨#[63]⟩ rfl)
              have hz9 : T.size + (⟨#[63]⟩ : ByteArray).size ≤ 8 * (k + 1) := by show T.size + 1 ≤ _; omega
              clear hT Hct hwl
              go_wp2
              go_light
              exact ⟨⟨k + 1, _, by omega, by go_num, rfl, H1.out, by rw [ByteArray.size_append]; exact hz9, trivial⟩, by simp [intOf]; omega⟩
            · have g1 : (x == -1) = false := by rw [beq_eq_false_iff_ne]; exact e1
              have H1 := Lib.hid (Hnext.out (mkS (wrF x)) rfl)
              have Hv := Lib.hid (letV_ok (show 1 ≤ x by omega) hx2)
              have hz9 : T.size + (mkS (wrF x)).size ≤ 8 * (k + 1) := by rw [mk_size]; omega
              obtain ⟨S, hS⟩ : ∃ S, S = mkS (wrF x) := ⟨_, rfl⟩
              rw [← hS] at H1 Hv hz9
              clear hT Hct hwl e0 e1 hS Hnext
              go_wp2_with (go_at_call 30; refine (rletters_any x _).mono ?_; rintro e w' ⟨rfl, rfl⟩; rw [Hv.out])
              go_light
              exact ⟨⟨k + 1, _, by omega, by go_num, rfl, H1.out, by rw [ByteArray.size_append]; exact hz9, trivial⟩, by simp [intOf]; omega⟩
        · obtain rfl : k = n2 := by omega
          have HT : Hid (T.data.toList = codeF l) := by
            have h := hT.out
            rwa [List.take_of_length_le (by have := Hlen2.out; omega)] at h
          have HTl := Lib.hid (show T.data.toList.length = T.size from Array.length_toList)
          have hT48 : T.size ≤ 4800 := by omega
          have H1 := Lib.hid (str_cells ss)
          have h63 : Hid (1 + n1 ≤ maxLen) := by show _ ≤ _; simp only [maxLen]; omega
          have hby : Hid ((1 + n1) * 16 ≤ 140737488355328) := by show _ ≤ _; omega
          have h63b : Hid (1 + n1 + 1 ≤ maxLen) := by show _ ≤ _; simp only [maxLen]; omega
          have hbyb : Hid ((1 + n1 + 1) * 16 ≤ 140737488355328) := by show _ ≤ _; omega
          have RA : Hid (∀ ob, Rd (w2.alloc ob) w.heap.size 1 A1 n1 (ss.map Value.string)) := fun ob => HC1.out.r1.below ((Below.refl _ _).alloc (by omega) _)
          have hws : Hid (∀ ob, w2.heap.size ≤ (w2.alloc ob).heap.size) := fun ob => by simp
          clear hT
          go_wp2_with (first
            | (at_builtin; go_loud (refine wpList_append_rd _ rfl (.tmp 53) (.tmp 55) 22 rfl w2.heap.size 9 i0 (.string ⟨#[]⟩) 1 16 Try.underlying22 hi0 hz0 hz1 hz2 rfl (by decide) _ _ _ rfl (World.ownsRow_lit w2 #[.string ⟨#[40]⟩] 1 (Nat.le_refl _) (by simp [maxLen]) rfl) _ A1 n1 k1 _ rfl (RA.out _) H1.out h63.out hby.out (hws.out _) ?_); intro v4 w4 hown4 hgrow4; obtain ⟨A4, c4, rfl⟩ := own_slice hown4)
            | (at_builtin; go_loud (refine wpList_append_own _ rfl (.tmp 56) (.tmp 57) 22 rfl w2.heap.size 9 i0 (.string ⟨#[]⟩) 1 16 Try.underlying22 hi0 hz0 hz1 hz2 rfl (by decide) _ _ _ rfl (hown4.alloc _) ⟨w4.heap.size, 0, none⟩ 1 1 [.string ⟨#[41]⟩] rfl rfl (fun j u hu => one_new8 w4 _ _ hu) (one_str8 _) h63b.out hbyb.out (by have := hgrow4.size; simp at this ⊢; omega) ?_); intro v5 w5 hown5 hgrow5 _; obtain ⟨A5, c5, rfl⟩ := own_slice hown5))
          have Hb5 : Hid (Below w2.heap.size w2 w5) := by
            have b4 : Below w2.heap.size w2 w4 := ((Below.refl _ _).alloc (Nat.le_refl _) _).grown hgrow4 (by simp) (fun q hq => by have hq' : some w2.heap.size = some q := hq; injection hq' with hq'; omega)
            exact (b4.alloc b4.size _).grown hgrow5 (by simp; have := b4.size; omega) (fun q hq => (hown4.lt q hq).1)
          have Hown5 : Hid (w5.ownsRow w2.heap.size 9 1 (.slice A5 (1 + n1 + 1) c5) (1 + n1 + 1) ((openB :: ss ++ [closeB]).map Value.string)) := by
            show w5.ownsRow _ _ _ _ _ _
            simpa [openB, closeB] using hown5
          clear hown4 hgrow4 hown5 hgrow5
          obtain ⟨W, hW⟩ : ∃ W : Nat, min (max width 1) 40000 = (W : Int) := ⟨(min (max width 1) 40000).toNat, by omega⟩
          have hW1 : 1 ≤ W := by omega
          have hW2 : W ≤ 40000 := by omega
          have HW := Lib.hid (show W = min (max width 1).toNat 40000 by omega)
          have Hst : Hid (ChunkAt ss (codeF l) W w2.heap.size w2 (.slice A5 (1 + n1 + 1) c5) 0 (codeF l).length [] w5) := by
            refine ⟨rfl, by simp, ?_, Hb5.out, Hb5.out.size⟩
            have e : ss.length + 2 + ([] : List (List UInt8)).length = 1 + n1 + 1 := by have := Hlen1.out; simp; omega
            rw [e]
            exact Hown5.out
          go_wp2
          rw [hW]
          go_loopw [11, 12] (fun v i wr => ∃ (a f : Nat) (pre : List (List UInt8)), i = .int .i64 a ∧ a ≤ 44800 ∧ Hid (ChunkAt ss (codeF l) W w2.heap.size w2 v a f pre wr)) (fun _ i _ => T.size - (intOf i).toNat)
          case atStart => exact ⟨0, _, [], rfl, by omega, Hst.out⟩
          case round =>
            obtain ⟨a, f, pre, rfl, ha, hC⟩ := hrel
            obtain ⟨A6, c6, rfl⟩ := own_slice hC.out.own
            by_cases hlt3 : a < T.size
            · obtain ⟨hi, hhi⟩ : ∃ hi : Nat, hi = min (a + W) T.size := ⟨_, rfl⟩
              have hmin : min ((a : Int) + (W : Int)) (T.size : Int) = (hi : Int) := by omega
              have hh1 : a ≤ hi := by omega
              have hh2 : hi ≤ T.size := by omega
              have Hext := Lib.hid (ext_chunk hhi)
              rw [HT.out] at Hext
              have hpl := hC.out.len
              have hcl : (codeF l).length = T.size := by rw [← HT.out]; exact HTl.out
              have h63c : Hid (ss.length + 2 + pre.length + 1 ≤ maxLen) := by have := Hlen1.out; show _ ≤ _; simp only [maxLen]; omega
              have hbyc : Hid ((ss.length + 2 + pre.length + 1) * 16 ≤ 140737488355328) := by have := Hlen1.out; show _ ≤ _; omega
              have hwc : Hid (∀ o, w2.heap.size ≤ (wr.alloc o).heap.size) := fun o => by have := hC.out.siz; simp; omega
              have Hcl := Lib.hid hcl
              clear hhi hpl hcl hW
              go_wp2_with (at_builtin; go_loud (refine wpList_append_own _ rfl (.tmp 69) (.tmp 79) 22 rfl w2.heap.size 9 i0 (.string ⟨#[]⟩) 1 16 Try.underlying22 hi0 hz0 hz1 hz2 rfl (by decide) _ _ _ rfl (hC.out.own.alloc _) ⟨wr.heap.size, 0, none⟩ 1 1 [.string (T.extract a hi)] rfl rfl (fun j u hu => one_new8 wr _ _ hu) (one_str8 _) h63c.out hbyc.out (hwc.out _) ?_); intro v7 w7 hown7 hgrow7 _)
              go_light
              have hb7 : Below w2.heap.size w2 w7 := (hC.out.bel.alloc hC.out.siz _).grown hgrow7 (by have := hC.out.siz; simp; omega) (fun q hq => (hC.out.own.lt q hq).1)
              rw [Hext.out] at hown7
              obtain ⟨f', hN⟩ := hC.out.next (by have := Hcl.out; omega) hW1 hown7 hb7 hb7.size
              exact ⟨⟨a + W, f', _, by go_num, by omega, hN⟩, by simp [intOf]; omega⟩
            · have hcl : (codeF l).length = T.size := by rw [← HT.out]; exact HTl.out
              have Hp := Lib.hid (hC.out.done (by omega))
              have Hi : Hid (WrIs ss l width (wordsF ss l (max width 1).toNat) 0) := .inr (.inr ⟨Hlok.out, Hnu.out, rfl, rfl⟩)
              have He : Hid (chunksF W (codeF l) = chunksF (max width 1).toNat (codeF l)) := by
                rw [HW.out]
                exact chunks_min _ _ _ _ (by omega)
              clear hcl hW
              go_wp2
              go_ret2
              have hw : wordsF ss l (max width 1).toNat = openB :: ss ++ closeB :: pre.map mkS := by rw [wordsF, Hp.out, He.out]
              refine ⟨_, 0, _, Hi.out, rfl, ?_, Hb1.out.trans (hC.out.bel.mono Hb1.out.size)⟩
              rw [hw]
              have hl : (openB :: ss ++ closeB :: pre.map mkS).length = ss.length + 2 + pre.length := by simp; omega
              rw [hl]
              exact own_base8 hC.out.own Hb1.out.size
    · obtain rfl := hbi3.not hnu
      have Hi := Lib.hid (show WrIs ss l width [] 21 from .inr (.inl ⟨Hlok.out, hnu, rfl, rfl⟩))
      clear hnu
      go_wp2
      go_ret2
      exact ⟨[], 21, _, Hi.out, rfl, World.ownsRow_nil _ _ _ _, Hb1.out⟩
  · obtain rfl := hbi.not hlok
    have Hi := Lib.hid (show WrIs ss l width [] 20 from .inl ⟨hlok, rfl, rfl⟩)
    clear hlok
    go_wp2
    go_ret2
    exact ⟨[], 20, _, Hi.out, rfl, World.ownsRow_nil _ _ _ _, Hb1.out⟩
end Go.Proofs.Ytjdomdeejibnmaa.Tok
