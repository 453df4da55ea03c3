/- What the laws of layer 8 ask of codes: that one is small, that two are equal. -/
import Derived.Test.YtjdomdeejibnmaaWrite8
import Derived.Test.YtjdomdeejibnmaaLawLetters
import Derived.Test.YtjdomdeejibnmaaEqual
import Derived.Test.YtjdomdeejibnmaaJoin
namespace Go.Proofs.Ytjdomdeejibnmaa.Tok
open Go.RowKit Go.Proofs.Ytjdomdeejibnmaa

def SmallC (n1 n2 : Nat) (ss : List ByteArray) : Prop := n1 ≤ 100 ∧ sumSz ss ≤ 3000 ∧ n2 ≤ 600
set_option maxHeartbeats 1600000 in
set_option maxRecDepth 4000 in
theorem small_any (A1 : Option Addr) (n1 k1 : Nat) (A2 : Option Addr) (n2 k2 : Nat) (ss : List ByteArray) (w : World) (hlen : ss.length = n1) (hk : n1 ≤ k1) (hz : sumSz ss ≤ 1048576) (hr : Rd w w.heap.size 1 A1 n1 (ss.map Value.string)) :
    Calls Try.prog 6 #[.agg #[.slice A1 n1 k1, .slice A2 n2 k2]] w fun e w' => BoolIs e (SmallC n1 n2 ss) ∧ Below w.heap.size w w' := by
  have Hb : Hid (∀ o, Below w.heap.size w (w.alloc o)) := fun o => (Below.refl _ _).alloc (Nat.le_refl _) o
  by_cases h1 : n1 ≤ 100
  · have HJ : Hid (∀ o, Calls Try.prog 5 #[.slice A1 n1 k1, .string ⟨#[]⟩] (w.alloc o) fun e w' => ∃ o' : ByteArray, e = .returned (.string o') ∧ o'.size = sumSz ss ∧ Below (w.alloc o).heap.size (w.alloc o) w') := fun o =>
      (join_any A1 n1 k1 ss _ hlen (by omega) hk (by omega) ((hr.below (Hb.out o)).more (Hb.out o).size)).mono fun e w' ⟨o', a, b, c⟩ => ⟨o', a, b, c⟩
    clear hr
    have hrow := heap_alloc_new w (.cells #[.slice A1 n1 k1, .slice A2 n2 k2] 25)
    go_enter Try.func6, Try.ntmps6
    go_wp2_with fail
    refine (HJ.out _).mono ?_
    rintro e w2 ⟨o, rfl, ho, hb2⟩
    have hc : w2.cell? ⟨w.heap.size, 1, none⟩ = some (.slice A2 n2 k2) := (cell_of_row _ _ 1 _ _ _ ((hb2.block w.heap.size (by simp)).trans hrow)).trans rfl
    have hlt : w.heap.size < w2.heap.size := by have := hb2.size; simp at this; omega
    have Hb2 := Lib.hid ((Hb.out _).trans (hb2.mono (by simp)))
    have Ho := Lib.hid ho
    clear hb2 hrow HJ
    by_cases h2 : sumSz ss ≤ 3000
    · have ho' : (o.size : Int) ≤ 3000 := by omega
      clear ho
      go_wp2
      go_ret
      exact ⟨⟨decide ((n2 : Int) ≤ 600), rfl, by unfold SmallC; simp; omega⟩, Hb2.out⟩
    · have ho' : ¬ (o.size : Int) ≤ 3000 := by omega
      clear ho
      have H := Lib.hid (show ¬ SmallC n1 n2 ss from fun h => h2 h.2.1)
      go_wp2
      go_ret
      exact ⟨BoolIs.no H.out, Hb2.out⟩
  · have H := Lib.hid (show ¬ SmallC n1 n2 ss from fun h => h1 h.1)
    clear hr hz
    go_enter Try.func6, Try.ntmps6
    go_wp2
    go_ret
    exact ⟨BoolIs.no H.out, Hb.out _⟩

set_option maxHeartbeats 1600000 in
set_option maxRecDepth 4000 in
theorem code_same (A1 : Option Addr) (n1 k1 : Nat) (A2 : Option Addr) (n2 k2 : Nat) (B1 : Option Addr) (d1 : Nat) (B2 : Option Addr) (d2 : Nat) (ls : List ByteArray) (o : List Int) (w : World) (h1 : n1 ≤ 1000000) (h2 : n2 ≤ 1000000)
    (r1 : Rd w w.heap.size 1 A1 n1 (ls.map Value.string)) (r2 : Rd w w.heap.size 1 A2 n2 (o.map (Value.int .i64))) (r3 : Rd w w.heap.size 1 B1 n1 (ls.map Value.string)) (r4 : Rd w w.heap.size 1 B2 n2 (o.map (Value.int .i64))) :
    Calls Try.prog 14 #[.agg #[.slice A1 n1 k1, .slice A2 n2 k2], .agg #[.slice B1 n1 d1, .slice B2 n2 d2]] w fun e w' => e = .returned (.bool true) ∧ Below w.heap.size w w' := by
  obtain ⟨w0, hw0⟩ : ∃ w0, w0 = (w.alloc (.cells #[.slice A1 n1 k1, .slice A2 n2 k2] 32)).alloc (.cells #[.slice B1 n1 d1, .slice B2 n2 d2] 32) := ⟨_, rfl⟩
  have hb : Below w.heap.size w w0 := by rw [hw0]; exact ((Below.refl _ _).alloc (Nat.le_refl _) _).alloc (by simp) _
  have q1 := Lib.hid (r1.below hb)
  have q2 := Lib.hid (r2.below hb)
  have q3 := Lib.hid (r3.below hb)
  have q4 := Lib.hid (r4.below hb)
  have x1 : w0.heap[w.heap.size]? = some (.cells #[.slice A1 n1 k1, .slice A2 n2 k2] 32 (0, 0)) := by rw [hw0]; exact (heap_alloc_old _ _ _ (by simp)).trans (heap_alloc_new w _)
  have x2 : w0.heap[w.heap.size + 1]? = some (.cells #[.slice B1 n1 d1, .slice B2 n2 d2] 32 (0, 0)) := by
    rw [hw0]
    have := heap_alloc_new (w.alloc (.cells #[.slice A1 n1 k1, .slice A2 n2 k2] 32)) (.cells #[.slice B1 n1 d1, .slice B2 n2 d2] 32)
    rwa [World.size_alloc] at this
  have Hb := Lib.hid hb
  clear r1 r2 r3 r4 hb
  go_enter Try.func14, Try.ntmps14
  go_wp2_with fail
  rw [← hw0]
  clear hw0
  refine (eqStr_same A1 B1 n1 k1 d1 _ _ ls w0 (by omega) q1.out q3.out).mono ?_
  rintro e w' ⟨rfl, q, rfl⟩
  obtain ⟨w3, hw3⟩ : ∃ w3, w3 = w0.drewN q := ⟨_, rfl⟩
  have c1 : w3.cell? ⟨w.heap.size, 1, none⟩ = some (.slice A2 n2 k2) := by rw [hw3]; exact (cell_of_row _ _ 1 _ _ _ x1).trans rfl
  have c2 : w3.cell? ⟨w.heap.size + 1, 1, none⟩ = some (.slice B2 n2 d2) := by rw [hw3]; exact (cell_of_row _ _ 1 _ _ _ x2).trans rfl
  have l1 : w.heap.size + 1 < w3.heap.size := by rw [hw3]; exact (Array.getElem?_eq_some_iff.1 x2).1
  have l0 : w.heap.size < w3.heap.size := by omega
  have s2 : Hid (Rd w3 w.heap.size 1 A2 n2 (o.map (Value.int .i64))) := by rw [hw3]; exact q2.out.below (below_drewN8 (Below.refl _ _) q)
  have s4 : Hid (Rd w3 w.heap.size 1 B2 n2 (o.map (Value.int .i64))) := by rw [hw3]; exact q4.out.below (below_drewN8 (Below.refl _ _) q)
  have Hb3 : Hid (Below w.heap.size w w3) := by rw [hw3]; exact below_drewN8 Hb.out q
  rw [← hw3]
  clear hw3 x1 x2
  go_wp2_with fail
  refine (eqInt_same A2 B2 n2 k2 d2 _ _ o w3 (by omega) s2.out s4.out).mono ?_
  rintro e w' ⟨rfl, q', rfl⟩
  go_wp2
  go_ret
  exact ⟨rfl, below_drewN8 Hb3.out q'⟩
end Go.Proofs.Ytjdomdeejibnmaa.Tok
