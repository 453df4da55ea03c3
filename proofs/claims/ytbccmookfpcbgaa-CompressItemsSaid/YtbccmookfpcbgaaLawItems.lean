/- The law CompressItems: every way through it returns true. -/
import Derived.Test.YtbccmookfpcbgaaRefItems
import Derived.Test.YtbccmookfpcbgaaLawLetters
namespace Go.Proofs.Ytbccmookfpcbgaa.Tok
open Go.RowKit Go.Proofs.Ytbccmookfpcbgaa

set_option maxHeartbeats 1600000 in
theorem eqItem_any (a : ByteArray) (b : Int) (c d : Bool) (w : World) :
    Calls Try.prog 20 #[.agg #[.string a, .int .i64 b, .bool c, .bool d], .agg #[.string a, .int .i64 b, .bool c, .bool d]] w fun e w' => e = .returned (.bool true) ∧ Below w.heap.size w w' := by
  go_enter Try.func20, Try.ntmps20
  go_wp2
  go_ret
  exact ⟨rfl, ((Below.refl _ _).alloc (Nat.le_refl _) _).alloc (by simp) _⟩

set_option maxHeartbeats 1600000 in
set_option maxRecDepth 8000 in
theorem eqItems_same (A A' : Option Addr) (n c d B B' : Nat) (its : List Itm) (w : World) (hn : n ≤ 40000) (h1 : Rd w B 4 A n (itmC its)) (h2 : Rd w B' 4 A' n (itmC its)) (hB : B ≤ w.heap.size) (hB' : B' ≤ w.heap.size) :
    Calls Try.prog 19 #[.slice A n c, .slice A' n d, .func (.func 20) #[] #[]] w fun e w' => e = .returned (.bool true) ∧ Below w.heap.size w w' := by
  have Hlen := Lib.hid (show its.length = n by have := h1.len; rw [itmC_len] at this; omega)
  have H1 := Lib.hid h1
  have H2 := Lib.hid h2
  clear h1 h2
  go_enter Try.func19, Try.ntmps19
  go_wp2
  go_loopw [17] (fun i wr => ∃ k : Nat, k ≤ n ∧ i = .int .i64 k ∧ Below w.heap.size w wr) (fun i _ => n - (intOf i).toNat)
  case atStart => exact ⟨0, Nat.zero_le _, rfl, Below.refl _ _⟩
  case round =>
    obtain ⟨k, hk, rfl, hb⟩ := hrel
    by_cases hlt : k < n
    · obtain ⟨b, off, rfl, hbb, hc⟩ := H1.out.pos (by omega)
      obtain ⟨b', off', rfl, hbb', hc'⟩ := H2.out.pos (by omega)
      have hk1 : k < its.length := by have := Hlen.out; omega
      have hz := hb.size
      have hbl : b < wr.heap.size := by omega
      have hbl' : b' < wr.heap.size := by omega
      have g : ∀ i, i < 4 → (itmC its)[k * 4 + i]? = (itmV its[k])[i]? := fun i hi => by
        unfold itmC
        have h0 : its = its.take k ++ its[k] :: its.drop (k + 1) := by rw [← List.drop_eq_getElem_cons hk1, List.take_append_drop]
        have hl : ((its.take k).flatMap itmV).length = k * 4 := by
          have := itmC_len (its.take k)
          rw [List.length_take, Nat.min_eq_left (by omega)] at this
          exact this
        conv => lhs; rw [h0]
        rw [List.flatMap_append, List.getElem?_append_right (by omega), hl, List.flatMap_cons, List.getElem?_append_left (by show _ < 4; omega), show k * 4 + i - k * 4 = i by omega]
      have g0 := (g 0 (by omega)).trans rfl
      have g1 := (g 1 (by omega)).trans rfl
      have g2 := (g 2 (by omega)).trans rfl
      have g3 := (g 3 (by omega)).trans rfl
      have c0 := (hb.cell (p := ⟨b, off + k * 4, none⟩) (by show b < _; omega)).trans (hc _ _ g0)
      have c1 := (hb.cell (p := ⟨b, off + (k * 4 + 1), none⟩) (by show b < _; omega)).trans (hc _ _ g1)
      have c2 := (hb.cell (p := ⟨b, off + (k * 4 + 2), none⟩) (by show b < _; omega)).trans (hc _ _ g2)
      have c3 := (hb.cell (p := ⟨b, off + (k * 4 + 3), none⟩) (by show b < _; omega)).trans (hc _ _ g3)
      have d0 := (hb.cell (p := ⟨b', off' + k * 4, none⟩) (by show b' < _; omega)).trans (hc' _ _ g0)
      have d1 := (hb.cell (p := ⟨b', off' + (k * 4 + 1), none⟩) (by show b' < _; omega)).trans (hc' _ _ g1)
      have d2 := (hb.cell (p := ⟨b', off' + (k * 4 + 2), none⟩) (by show b' < _; omega)).trans (hc' _ _ g2)
      have d3 := (hb.cell (p := ⟨b', off' + (k * 4 + 3), none⟩) (by show b' < _; omega)).trans (hc' _ _ g3)
      rw [← Nat.add_assoc] at c1 c2 c3 d1 d2 d3
      obtain ⟨⟨s, y, p, q⟩, hx⟩ : ∃ x, x = its[k] := ⟨_, rfl⟩
      rw [← hx] at c0 c1 c2 c3 d0 d1 d2 d3
      clear hx g g0 g1 g2 g3 hc hc'
      simp only at c0 c1 c2 c3 d0 d1 d2 d3
      go_wp2_with fail
      refine (eqItem_any s y p q _).mono ?_
      rintro e w' ⟨rfl, hb2⟩
      go_wp2
      go_light
      exact ⟨⟨k + 1, by omega, by go_num, ((hb.alloc hz _).alloc (by simp; omega) _).trans (hb2.mono (by simp; omega))⟩, by simp [intOf]; omega⟩
    · obtain rfl : k = n := by omega
      go_wp2
      go_ret
      exact ⟨rfl, hb⟩

theorem sizeCode : (Try.prog.info? 25).map (·.size) = some 2 := by kernel_rfl
theorem itemsF_le (hs : List HypT) (lb : List ByteArray) (l : List Int) : (itemsF hs lb l).1.length ≤ 2000 := by
  unfold itemsF
  split
  · split
    · split
      · exact Nat.zero_le _
      · split
        · exact Nat.zero_le _
        · rename_i h
          exact Nat.le_of_not_lt h
    · exact Nat.zero_le _
  · exact Nat.zero_le _

set_option maxHeartbeats 3200000 in
set_option maxRecDepth 8000 in
theorem law_items (x0 : ByteArray) (x1 : Bool) (H A3 A4 A5 A6 A7 : Option Addr) (m hc n3 c3 n4 c4 n5 c5 n6 c6 n7 c7 : Nat) (Lb L : Option Addr) (nl cl n c : Nat) (hs : List HypT) (lb : List ByteArray) (l : List Int) (w : World)
    (hm : m ≤ maxLen) (hnl : nl ≤ maxLen) (hlc : nl ≤ cl) (hn : n ≤ maxLen) (hsz : ∀ s ∈ lb, s.size ≤ maxLen)
    (hh : Rd w w.heap.size 3 H m (hs.flatMap hypV)) (hlb : Rd w w.heap.size 1 Lb nl (lb.map Value.string)) (hl : Rd w w.heap.size 1 L n (l.map (Value.int .i64))) :
    Calls Try.prog 4 #[.agg #[.string x0, .bool x1, .slice H m hc, .slice A3 n3 c3, .slice A4 n4 c4, .slice A5 n5 c5, .slice A6 n6 c6, .slice A7 n7 c7], .agg #[.slice Lb nl cl, .slice L n c]] w fun e w' => e = .returned (.bool true) ∧ Below w.heap.size w w' := by
  have hsz' : ∀ s ∈ lb, s.size ≤ 9223372036854775807 := fun s h => by have := hsz s h; unfold maxLen at this; omega
  have Hh := Lib.hid hh
  have Hlb := Lib.hid hlb
  have Hl := Lib.hid hl
  have Hsz := Lib.hid hsz'
  unfold maxLen at hm hnl hn
  clear hh hlb hl hsz hsz'
  have Haw : ∀ wq, Below w.heap.size w wq → Calls Try.prog 8 #[] wq fun e w' => e = .returned (.bool true) ∧ Below w.heap.size w w' := fun wq h =>
    (awake8_any wq).mono fun e w' ⟨h1, h2⟩ => ⟨h1, h.trans (h2.mono h.size)⟩
  have HAw := Lib.hid Haw
  clear Haw
  have hcase : ((60 < m ∨ (m ≤ 60 ∧ 100 < nl)) ∨ (m ≤ 60 ∧ nl ≤ 100 ∧ ((600 < n ∧ n ≤ 2000) ∨ 5000 < n))) ∨ (m ≤ 60 ∧ nl ≤ 100 ∧ (n ≤ 600 ∨ (2000 < n ∧ n ≤ 5000))) := by omega
  have hbB : ∀ o o' : Obj, Below w.heap.size w ((w.alloc o).alloc o') := fun o o' => ((Below.refl _ _).alloc (Nat.le_refl _) _).alloc (by simp) _
  have HbB := Lib.hid hbB
  clear hbB
  rcases hcase with ((h | ⟨h, h'⟩) | ⟨h, h', h'' | h''⟩) | ⟨h, h', h'' | h''⟩
  iterate 4
    go_enter Try.func4, Try.ntmps4
    go_wp2_with (go_at_call 8; refine (HAw.out _ (HbB.out _ _)).mono ?_; rintro e w' ⟨rfl, hb⟩)
    go_ret
    exact ⟨rfl, hb⟩
  all_goals
    go_enter Try.func4, Try.ntmps4
    go_wp2_with fail
    generalize hwq : World.alloc (World.alloc _ _) _ = wq
    have hbq : Below w.heap.size w wq := by subst hwq; exact HbB.out _ _
    have hsq : wq.heap.size = w.heap.size + 2 := by subst hwq; simp
    have Hr0 := Lib.hid (show wq.heap[w.heap.size]? = some (.cells #[.string x0, .bool x1, .slice H m hc, .slice A3 n3 c3, .slice A4 n4 c4, .slice A5 n5 c5, .slice A6 n6 c6, .slice A7 n7 c7] 45 (0, 0)) by
      subst hwq; rw [heap_alloc_old _ _ (by simp)]; exact heap_alloc_new _ _)
    have Hr1 := Lib.hid (show wq.heap[w.heap.size + 1]? = some (.cells #[.slice Lb nl cl, .slice L n c] 25 (0, 0)) by
      subst hwq; have := heap_alloc_new (w.alloc (.cells #[.string x0, .bool x1, .slice H m hc, .slice A3 n3 c3, .slice A4 n4 c4, .slice A5 n5 c5, .slice A6 n6 c6, .slice A7 n7 c7] 45)) (.cells #[.slice Lb nl cl, .slice L n c] 25); rwa [show (w.alloc (.cells #[.string x0, .bool x1, .slice H m hc, .slice A3 n3 c3, .slice A4 n4 c4, .slice A5 n5 c5, .slice A6 n6 c6, .slice A7 n7 c7] 45)).heap.size = w.heap.size + 1 by simp] at this)
    clear hwq
    have Hsq := Lib.hid hsq
    have Hbq := Lib.hid hbq
    clear hsq hbq
    have HR : Hid (∀ w1, Below w.heap.size w w1 → Rd w1 w1.heap.size 3 H m (hs.flatMap hypV) ∧ Rd w1 w1.heap.size 1 Lb nl (lb.map Value.string) ∧ Rd w1 w1.heap.size 1 L n (l.map (Value.int .i64))) := fun w1 hb =>
      ⟨(Hh.out.below hb).more hb.size, (Hlb.out.below hb).more hb.size, (Hl.out.below hb).more hb.size⟩
    refine (items_any x0 x1 H A3 A4 A5 A6 A7 m hc n3 c3 n4 c4 n5 c5 n6 c6 n7 c7 Lb L nl cl n c hs lb l wq h h' (by omega) Hsz.out (HR.out wq Hbq.out).1 (HR.out wq Hbq.out).2.1 (HR.out wq Hbq.out).2.2).mono ?_
    rintro e w1 ⟨B1, e1, rfl, own1, hb1⟩
    have Own1 := Lib.hid own1
    have Hbw1 := Lib.hid (Hbq.out.trans (hb1.mono Hbq.out.size))
    have Hb1 := Lib.hid hb1
    have Hrow0 := Lib.hid ((hb1.block w.heap.size (by have := Hsq.out; omega)).trans Hr0.out)
    have Hrow1 := Lib.hid ((hb1.block (w.heap.size + 1) (by have := Hsq.out; omega)).trans Hr1.out)
    clear own1 hb1
    go_wp2_with (first
      | (refine wpList_load_row rfl 45 (.tmp 2) rfl w.heap.size rfl 45 #[.string x0, .bool x1, .slice H m hc, .slice A3 n3 c3, .slice A4 n4 c4, .slice A5 n5 c5, .slice A6 n6 c6, .slice A7 n7 c7] (0, 0) _ Hrow0.out Try.underlying45 rfl sizeFrame ?_)
      | (refine wpList_load_row rfl 25 (.tmp 3) rfl (w.heap.size + 1) rfl 25 #[.slice Lb nl cl, .slice L n c] (0, 0) _ Hrow1.out Try.underlying25 rfl sizeCode ?_))
    refine (ritems_any x0 x1 H A3 A4 A5 A6 A7 m hc n3 c3 n4 c4 n5 c5 n6 c6 n7 c7 Lb L nl cl n c hs lb l w1 h h' hlc (by omega) Hsz.out (HR.out w1 Hbw1.out).1 (HR.out w1 Hbw1.out).2.1 (HR.out w1 Hbw1.out).2.2).mono ?_
    rintro e w2 ⟨B2, e2, rfl, own2, hb2⟩
    have Own2 := Lib.hid own2
    have Hbw2 := Lib.hid (Hbw1.out.trans (hb2.mono Hbw1.out.size))
    have Hb2 := Lib.hid hb2
    clear own2 hb2
    have Hle := Lib.hid (itemsF_le hs lb l)
    obtain ⟨F, hF⟩ : ∃ F, F = itemsF hs lb l := ⟨_, rfl⟩
    rw [← hF] at Own1 Own2 Hle ⊢
    clear hF
    obtain ⟨its, er⟩ := F
    simp only
    have HE := Lib.hid (eqItems_same B1 B2 its.length e1 e2 w1.heap.size w2.heap.size its w2 (by have : its.length ≤ 2000 := Hle.out; omega) ((Rd.own Own1.out).below Hb2.out) (Rd.own Own2.out) Hb2.out.size (Nat.le_refl _))
    go_wp2_with fail
    refine (HE.out).mono ?_
    rintro e w3 ⟨rfl, hb3⟩
    have Hbw3 := Lib.hid (Hbw2.out.trans (hb3.mono Hbw2.out.size))
    clear hb3
    go_wp2_with (go_at_call 8; refine (HAw.out _ Hbw3.out).mono ?_; rintro e w' ⟨rfl, hb⟩)
    go_ret
    exact ⟨rfl, hb⟩
end Go.Proofs.Ytbccmookfpcbgaa.Tok
