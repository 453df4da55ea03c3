/- Contract of the program's letters of a number. -/
import Derived.Test.YtjdomdeejibnmaaRefLetters
namespace Go.Proofs.Ytjdomdeejibnmaa.Tok
open Go.RowKit Go.Proofs.Ytjdomdeejibnmaa

def bcl (bs : List UInt8) : Array Value := (bs.map fun b => Value.int .u8 (b.toNat : Int)).toArray
theorem bcl_get (bs : List UInt8) (j : Nat) (h : j < bs.length) : (bcl bs)[j]? = some (.int .u8 (bs[j].toNat : Int)) := by simp [bcl, h]
theorem bcl_set (bs : List UInt8) (j : Nat) (b : UInt8) : (bcl bs).setIfInBounds j (.int .u8 (b.toNat : Int)) = bcl (bs.set j b) := by
  unfold bcl
  rw [List.setIfInBounds_toArray, List.map_set]
/-- How great the rest of a number can be where so many places are left. -/
def bnd : Nat → Nat
  | 7 => 49999
  | 6 => 9999
  | 5 => 1999
  | 4 => 399
  | 3 => 79
  | 2 => 15
  | 1 => 2
  | _ => 0
theorem bnd_step {a m : Nat} (ha : a ≤ 7) (hm : 0 < m) (h : m ≤ bnd a) : ∃ a', a = a' + 1 ∧ (m - 1) / 5 ≤ bnd a' := by
  rcases (show a = 0 ∨ a = 1 ∨ a = 2 ∨ a = 3 ∨ a = 4 ∨ a = 5 ∨ a = 6 ∨ a = 7 by omega) with rfl | rfl | rfl | rfl | rfl | rfl | rfl | rfl <;> simp only [bnd] at h
  · omega
  · exact ⟨0, rfl, by simp only [bnd]; omega⟩
  · exact ⟨1, rfl, by simp only [bnd]; omega⟩
  · exact ⟨2, rfl, by simp only [bnd]; omega⟩
  · exact ⟨3, rfl, by simp only [bnd]; omega⟩
  · exact ⟨4, rfl, by simp only [bnd]; omega⟩
  · exact ⟨5, rfl, by simp only [bnd]; omega⟩
  · exact ⟨6, rfl, by simp only [bnd]; omega⟩
theorem bnd_le (a : Nat) : bnd a ≤ 49999 := by
  unfold bnd
  split <;> omega
theorem set_drop (bs : List UInt8) (j : Nat) (b : UInt8) (h : j < bs.length) : b :: bs.drop (j + 1) = (bs.set j b).drop j := by
  have h1 : (bs.set j b).drop j = (bs.drop j).set 0 b := by
    rw [List.drop_set]
    simp
  rw [h1, List.drop_eq_getElem_cons h]
  rfl
theorem row_set1 {w : World} {q i : Nat} {cs : Array Value} {t : TypeId} {fr : Nat × Nat} (v : Value) (h : w.heap[q]? = some (.cells cs t fr)) : (w.setCell ⟨q, i, none⟩ v).heap[q]? = some (.cells (cs.setIfInBounds i v) t fr) := by
  obtain ⟨hlt, hv⟩ := Array.getElem?_eq_some_iff.1 h
  unfold World.setCell
  rw [Array.getElem?_eq_getElem (by simpa using hlt), Array.getElem_modify]
  simp [hv]
theorem conv_drop {w : World} {B a n : Nat} {bs : List UInt8} {T : TypeId} (hr : w.heap[B]? = some (.cells (bcl bs) T (0, 0))) (hl : (bs.drop a).length = n) :
    (convert 51 9 (.slice (some ⟨B, a, none⟩) n n)).run Try.prog w = .ok (.string ⟨(bs.drop a).toArray⟩) w := by
  rw [← hl]
  refine run_convert_bytes_back w _ _ 5 ⟨B, a, none⟩ _ (bs.drop a) Try.underlying51 Try.underlying5 Try.underlying9 ?_
  intro j hj
  have hj' : a + j < bs.length := by simp at hj; omega
  have hadd : (⟨B, a, none⟩ : Addr).add j = ⟨B, a + j, none⟩ := by
    unfold Addr.add
    split <;> simp_all
  rw [hadd, cell_of_row _ _ _ _ _ _ hr, bcl_get _ _ hj']
  simp

set_option maxHeartbeats 1600000 in
set_option maxRecDepth 8000 in
theorem letters_any (i : Int) (w : World) : Calls Try.prog 16 #[.int .i64 i] w fun e w' => e = .returned (letV i) ∧ Below w.heap.size w w' := by
  by_cases h : 1 ≤ i ∧ i ≤ 1000000
  · obtain ⟨k, rfl⟩ : ∃ k : Nat, i = (k : Int) := ⟨i.toNat, by omega⟩
    have Hv := Lib.hid (show letV (k : Int) = .tuple #[.string ⟨(lettersF k).toArray⟩, .int .i64 0] by unfold letV; rw [if_pos h]; rfl)
    obtain ⟨h1, h2⟩ := h
    have h3 : 1 ≤ k := by omega
    have h4 : k ≤ 1000000 := by omega
    go_enter Try.func16, Try.ntmps16
    go_wp2
    go_loopw [5, 6] (fun av rv wr => ∃ (a m : Nat) (bs : List UInt8), av = .int .i64 a ∧ rv = .int .i64 m ∧ a ≤ 7 ∧ bs.length = 8 ∧ Hid (highs m (bs.drop a) = lettersF k) ∧ m ≤ bnd a ∧ Hid (wr.heap[w.heap.size]? = some (.cells (bcl bs) 67 (0, 0))) ∧ Below w.heap.size w wr) (fun _ r _ => (intOf r).toNat)
    case atStart =>
      have e1 : (65 + ((k : Int) - 1) % 20) = (((UInt8.ofNat (65 + (k - 1) % 20)).toNat : Nat) : Int) := by simp; omega
      refine ⟨7, (k - 1) / 20, [0, 0, 0, 0, 0, 0, 0, UInt8.ofNat (65 + (k - 1) % 20)], rfl, ?_, Nat.le_refl _, rfl, rfl, ?_, ?_, (Below.refl _ _).alloc (Nat.le_refl _) _⟩
      · congr 1
        omega
      · simp only [bnd]
        omega
      · show _ = _
        rw [heap_alloc_new, e1]
        rfl
    case round =>
      obtain ⟨a, m, bs, rfl, rfl, ha, hlen, hh, hm, hrow, hb⟩ := hrel
      by_cases h0 : m = 0
      · subst h0
        have Hlen := Lib.hid hlen
        clear hm hlen
        rcases (show a = 0 ∨ a = 1 ∨ a = 2 ∨ a = 3 ∨ a = 4 ∨ a = 5 ∨ a = 6 ∨ a = 7 by omega) with rfl | rfl | rfl | rfl | rfl | rfl | rfl | rfl
        · have hcv := conv_drop (a := 0) (n := 8) hrow.out (by simp [Hlen.out])
          obtain ⟨sv, hsv⟩ : ∃ sv, sv = (⟨(bs.drop 0).toArray⟩ : ByteArray) := ⟨_, rfl⟩
          rw [← hsv] at hcv
          have Hsv := Lib.hid hsv
          clear hsv
          go_wp2
          go_ret2
          exact ⟨by rw [Hv.out, ← hh.out, highs_zero, ← Hsv.out]; rfl, hb⟩
        · have hcv := conv_drop (a := 1) (n := 7) hrow.out (by simp [Hlen.out])
          obtain ⟨sv, hsv⟩ : ∃ sv, sv = (⟨(bs.drop 1).toArray⟩ : ByteArray) := ⟨_, rfl⟩
          rw [← hsv] at hcv
          have Hsv := Lib.hid hsv
          clear hsv
          go_wp2
          go_ret2
          exact ⟨by rw [Hv.out, ← hh.out, highs_zero, ← Hsv.out]; rfl, hb⟩
        · have hcv := conv_drop (a := 2) (n := 6) hrow.out (by simp [Hlen.out])
          obtain ⟨sv, hsv⟩ : ∃ sv, sv = (⟨(bs.drop 2).toArray⟩ : ByteArray) := ⟨_, rfl⟩
          rw [← hsv] at hcv
          have Hsv := Lib.hid hsv
          clear hsv
          go_wp2
          go_ret2
          exact ⟨by rw [Hv.out, ← hh.out, highs_zero, ← Hsv.out]; rfl, hb⟩
        · have hcv := conv_drop (a := 3) (n := 5) hrow.out (by simp [Hlen.out])
          obtain ⟨sv, hsv⟩ : ∃ sv, sv = (⟨(bs.drop 3).toArray⟩ : ByteArray) := ⟨_, rfl⟩
          rw [← hsv] at hcv
          have Hsv := Lib.hid hsv
          clear hsv
          go_wp2
          go_ret2
          exact ⟨by rw [Hv.out, ← hh.out, highs_zero, ← Hsv.out]; rfl, hb⟩
        · have hcv := conv_drop (a := 4) (n := 4) hrow.out (by simp [Hlen.out])
          obtain ⟨sv, hsv⟩ : ∃ sv, sv = (⟨(bs.drop 4).toArray⟩ : ByteArray) := ⟨_, rfl⟩
          rw [← hsv] at hcv
          have Hsv := Lib.hid hsv
          clear hsv
          go_wp2
          go_ret2
          exact ⟨by rw [Hv.out, ← hh.out, highs_zero, ← Hsv.out]; rfl, hb⟩
        · have hcv := conv_drop (a := 5) (n := 3) hrow.out (by simp [Hlen.out])
          obtain ⟨sv, hsv⟩ : ∃ sv, sv = (⟨(bs.drop 5).toArray⟩ : ByteArray) := ⟨_, rfl⟩
          rw [← hsv] at hcv
          have Hsv := Lib.hid hsv
          clear hsv
          go_wp2
          go_ret2
          exact ⟨by rw [Hv.out, ← hh.out, highs_zero, ← Hsv.out]; rfl, hb⟩
        · have hcv := conv_drop (a := 6) (n := 2) hrow.out (by simp [Hlen.out])
          obtain ⟨sv, hsv⟩ : ∃ sv, sv = (⟨(bs.drop 6).toArray⟩ : ByteArray) := ⟨_, rfl⟩
          rw [← hsv] at hcv
          have Hsv := Lib.hid hsv
          clear hsv
          go_wp2
          go_ret2
          exact ⟨by rw [Hv.out, ← hh.out, highs_zero, ← Hsv.out]; rfl, hb⟩
        · have hcv := conv_drop (a := 7) (n := 1) hrow.out (by simp [Hlen.out])
          obtain ⟨sv, hsv⟩ : ∃ sv, sv = (⟨(bs.drop 7).toArray⟩ : ByteArray) := ⟨_, rfl⟩
          rw [← hsv] at hcv
          have Hsv := Lib.hid hsv
          clear hsv
          go_wp2
          go_ret2
          exact ⟨by rw [Hv.out, ← hh.out, highs_zero, ← Hsv.out]; rfl, hb⟩
      · obtain ⟨a', rfl, hm'⟩ := bnd_step ha (by omega) hm
        have h0' : 0 < (m : Int) := by omega
        have hm49 : m ≤ 49999 := Nat.le_trans hm (bnd_le _)
        obtain ⟨u, hc⟩ : ∃ u : Nat, (bcl bs)[a']? = some (.int .u8 (u : Int)) := ⟨_, bcl_get bs a' (by omega)⟩
        have hcell : wr.cell? ⟨w.heap.size, a', none⟩ = some (.int .u8 (u : Int)) := by rw [cell_of_row _ _ _ _ _ _ hrow.out, hc]
        have hfr : wr.frozen? ⟨w.heap.size, a', none⟩ = false := by simp [World.frozen?, hrow.out]
        have E1 := Lib.hid (show (85 + ((m : Int) - 1) % 5) = (((UInt8.ofNat (85 + (m - 1) % 5)).toNat : Nat) : Int) by simp; omega)
        have Hs := Lib.hid (highs_pos (show 0 < m by omega) (bs.drop (a' + 1)))
        have Hd := Lib.hid (show UInt8.ofNat (85 + (m - 1) % 5) :: bs.drop (a' + 1) = (bs.set a' (UInt8.ofNat (85 + (m - 1) % 5))).drop a' from set_drop bs a' _ (by omega))
        have Hm := Lib.hid hm'
        have Hlen := Lib.hid hlen
        clear hc hm hm' h0 hlen
        go_wp2
        go_light
        refine ⟨⟨a', (m - 1) / 5, bs.set a' (UInt8.ofNat (85 + (m - 1) % 5)), by first | rfl | (congr 1; omega), by first | rfl | (congr 1; omega), by omega, by simp [Hlen.out], by show _ = _; rw [← Hd.out, ← Hs.out]; exact hh.out, Hm.out, ?_, hb.setCell (p := ⟨w.heap.size, a', none⟩) (Nat.le_refl _) _⟩, by simp [intOf]; omega⟩
        show _ = _
        rw [E1.out, row_set1 _ hrow.out, bcl_set]
  · have Hv := Lib.hid (show letV i = .tuple #[.string ⟨#[]⟩, .int .i64 3] by unfold letV; rw [if_neg h])
    have h' : i < 1 ∨ 1000000 < i := by omega
    clear h
    rcases h' with h | h
    all_goals
      go_enter Try.func16, Try.ntmps16
      go_wp2
      go_ret2
      exact ⟨by rw [Hv.out]; rfl, Below.refl _ _⟩
end Go.Proofs.Ytjdomdeejibnmaa.Tok
