/- A history beside the reference's, as the law of the histories keeps them. -/
import Derived.Test.YtefhnacbgpbdhaaHist8
import Derived.Test.YtefhnacbgpbdhaaFew
namespace Go.Proofs.Ytefhnacbgpbdhaa.Tok
open Go.RowKit Go.Proofs.Ytefhnacbgpbdhaa

theorem Hist.mono {base base' : Nat} {w : World} {g gi c : Nat} {vs : List Int} {cur : Nat} (h : Hist base w g gi c vs cur) (hb : base' ≤ base) : Hist base' w g gi c vs cur where
  row := h.row
  own := by
    refine ⟨h.own.1, ?_⟩
    rcases h.own.2 with e | ⟨g', cap, cu, e1, e2, e3⟩
    · exact .inl e
    · exact .inr ⟨g', cap, cu, e1, by omega, e3⟩
  lt := h.lt
  le := h.le
  bg := by have := h.bg; omega
theorem own_mono {base base' : Nat} {w : World} {T : TypeId} {z n : Nat} {v : Value} {xs : List Value} (h : w.ownsRow base T z v n xs) (hb : base' ≤ base) : w.ownsRow base' T z v n xs := by
  refine ⟨h.1, ?_⟩
  rcases h.2 with e | ⟨g', cap, cu, e1, e2, e3⟩
  · exact .inl e
  · exact .inr ⟨g', cap, cu, e1, by omega, e3⟩
theorem own_row {base : Nat} {w : World} {T : TypeId} {g n c : Nat} {xs : List Value} (h : w.ownsRow base T 1 (.slice (some ⟨g, 0, none⟩) n c) n xs) : (∃ cu, w.heap[g]? = some (.cells cu T (0, 0))) ∧ base ≤ g ∧ g < w.heap.size := by
  refine ⟨?_, h.lt g rfl⟩
  rcases h.2 with ⟨h1, _⟩ | ⟨g', cap, cu, h1, _, h2, _⟩
  · cases h1
  · injection h1 with h1; injection h1 with h1; injection h1 with h1; subst h1; exact ⟨cu, h2⟩
theorem own_but {bs : List Nat} {base : Nat} {w w' : World} {T : TypeId} {g n c : Nat} {xs : List Value} (h : w.ownsRow base T 1 (.slice (some ⟨g, 0, none⟩) n c) n xs) (hk : ButAt bs w w') (hn : g ∉ bs) : w'.ownsRow base T 1 (.slice (some ⟨g, 0, none⟩) n c) n xs := by
  have hlt := (own_row h).2.2
  refine ⟨h.1, ?_⟩
  rcases h.2 with ⟨e1, _⟩ | ⟨g', cap, cu, e1, e2, e3, e4⟩
  · cases e1
  · injection e1 with e1 _ e5
    injection e1 with e1
    injection e1 with e1
    subst e1 e5
    exact .inr ⟨g, c, cu, rfl, e2, (hk.block g hlt hn).trans e3, e4⟩
theorem setRow_but (w : World) (q : Nat) (cs : Array Value) : ButAt [q] w (w.setRow q cs) := ⟨rfl, rfl, rfl, by simp, fun k _ hn => setRow_other _ _ _ _ (by simpa using hn)⟩
theorem row_lt {w : World} {g : Nat} {o : Obj} (h : w.heap[g]? = some o) : g < w.heap.size := by
  rcases Nat.lt_or_ge g w.heap.size with h1 | h1
  · exact h1
  · rw [Array.getElem?_eq_none h1] at h; cases h

/-- The history and the reference's, which agree. -/
structure HR (base : Nat) (w0 : World) (q9 : Nat) (wr : World) (g gi c : Nat) (vs : List Int) (cur gr cr : Nat) : Prop where
  hist : Hist base wr g gi c vs cur
  row9 : wr.heap[q9]? = some (.cells #[.slice (some ⟨gr, 0, none⟩) vs.length cr, .int .i64 (cur : Nat)] 66 (0, 0))
  own9 : wr.ownsRow base 3 1 (.slice (some ⟨gr, 0, none⟩) vs.length cr) vs.length (vs.map (Value.int .i64))
  ne : gi ≠ gr
  bel : Below base w0 wr
  bas : base ≤ wr.heap.size
  b9 : base ≤ q9
section
variable {base : Nat} {w0 wr w1 w2 : World} {q9 g gi c : Nat} {vs : List Int} {cur gr cr : Nat}
theorem HR.apart (h : HR base w0 q9 wr g gi c vs cur gr cr) : g ≠ q9 ∧ gi ≠ q9 ∧ gr ≠ q9 ∧ gr ≠ g := by
  obtain ⟨⟨cu, h1⟩, _⟩ := own_row h.own9
  obtain ⟨cu2, h2⟩ := h.hist.irow
  have h3 := h.hist.row
  have h4 := h.row9
  refine ⟨?_, ?_, ?_, ?_⟩ <;> rintro rfl
  · rw [h3] at h4; simp at h4
  · rw [h2] at h4; simp at h4
  · rw [h1] at h4; simp at h4
  · rw [h1] at h3; simp at h3
theorem HR.same (h : HR base w0 q9 wr g gi c vs cur gr cr) (hb : Below wr.heap.size wr w1) : HR base w0 q9 w1 g gi c vs cur gr cr where
  hist := h.hist.below hb
  row9 := (hb.block q9 (row_lt h.row9)).trans h.row9
  own9 := own_but h.own9 (ButAt.of (bs := []) hb) (by simp)
  ne := h.ne
  bel := h.bel.trans (hb.mono h.bas)
  bas := by have := hb.size; have := h.bas; omega
  b9 := h.b9
theorem HR.next (h : HR base w0 q9 wr g gi c vs cur gr cr) {g1 gi1 c1 : Nat} {vs1 : List Int} {cur1 gr2 cr2 : Nat} (b1 : ButAt [g, gi] wr w1) (h1 : Hist base w1 g1 gi1 c1 vs1 cur1) (hgi : gi1 = gi ∨ wr.heap.size ≤ gi1)
    (b2 : Below w1.heap.size w1 w2) (o2 : w2.ownsRow base 3 1 (.slice (some ⟨gr2, 0, none⟩) vs1.length cr2) vs1.length (vs1.map (Value.int .i64))) (hgr : gr2 = gr ∨ w1.heap.size ≤ gr2) :
    w2.heap[q9]? = some (.cells #[.slice (some ⟨gr, 0, none⟩) vs.length cr, .int .i64 (cur : Nat)] 66 (0, 0)) ∧ HR base w0 q9 (w2.setRow q9 #[.slice (some ⟨gr2, 0, none⟩) vs1.length cr2, .int .i64 (cur1 : Nat)]) g1 gi1 c1 vs1 cur1 gr2 cr2 := by
  obtain ⟨a1, a2, a3, a4⟩ := h.apart
  have q1 : w1.heap[q9]? = _ := (b1.block q9 (row_lt h.row9) (by simp; exact ⟨fun e => a1 e.symm, fun e => a2 e.symm⟩)).trans h.row9
  have q2 : w2.heap[q9]? = _ := (b2.block q9 (row_lt q1)).trans q1
  have k1 : g1 ≠ q9 := by
    have := h1.row
    rintro rfl
    rw [q1] at this
    simp at this
  have k2 : gi1 ≠ q9 := by
    obtain ⟨cu, h2⟩ := h1.irow
    rintro rfl
    rw [q1] at h2
    simp at h2
  have k3 : gr2 ≠ q9 := by
    obtain ⟨⟨cu, h2⟩, _⟩ := own_row o2
    rintro rfl
    rw [q2] at h2
    simp at h2
  have hz := (own_row h.own9).2.2
  have hz1 := b1.size
  refine ⟨q2, ?_, setRow_heap _ _ _ _ _ _ q2, own_but o2 (setRow_but _ _ _) (by simpa using k3), ?_, ?_, ?_, h.b9⟩
  · exact (h1.below b2).kept (setRow_but _ _ _) (by simpa using k1) (by simpa using k2)
  · have hlt := h1.gilt.2
    have := h.ne
    rcases hgi with e | e <;> rcases hgr with e2 | e2 <;> omega
  · have hbs : ∀ k ∈ [g, gi], base ≤ k := by
      intro k hk
      have := h.hist.bg
      have := h.hist.gilt.1
      simp at hk
      rcases hk with rfl | rfl <;> omega
    exact setRow_below ((h.bel.trans (b1.below h.bas hbs)).trans (b2.mono (by have := h.bas; omega))) h.b9 _
  · have := h.bas
    have := b2.size
    simp
    omega
end
/-- A move: its kind, how often, its value; three cells. -/
structure MvT where
  kind : Nat
  times : Nat
  val : Int
def mvV (m : MvT) : List Value := [.int .u8 m.kind, .int .u16 m.times, .int .i64 m.val]
def MvOk (m : MvT) : Prop := m.kind ≤ 255 ∧ m.times ≤ 65535
end Go.Proofs.Ytefhnacbgpbdhaa.Tok
