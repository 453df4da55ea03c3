/- The trees made so far, as the law of the depth keeps them. -/
import Derived.Test.YtdffgkhlkbaecaaStepMath
import Derived.Test.YtdffgkhlkbaecaaAppend
import Derived.OwnWalk
import Derived.Laws.AppendOwn
import Derived.Laws.OwnMore
namespace Go.Proofs.Ytdffgkhlkbaecaa.Tok
open Go.RowKit Go.Proofs.Ytdffgkhlkbaecaa

def OpOk (o : OpT) : Prop := o.kind ≤ 255 ∧ o.tree ≤ 255 ∧ o.other ≤ 255
def keysTo (os : List OpT) (k : Nat) : List ByteArray := (os.take k).map (·.key)
theorem keysTo_succ (os : List OpT) (k : Nat) (h : k < os.length) : keysTo os (k + 1) = keysTo os k ++ [os[k].key] := by
  unfold keysTo
  rw [List.take_succ_eq_append_getElem h, List.map_append]
  rfl
theorem keysTo_len (os : List OpT) (k : Nat) : (keysTo os k).length ≤ k := by unfold keysTo; rw [List.length_map, List.length_take]; omega
structure DepRel (w : World) (os : List OpT) (k : Nat) (v : Value) (ps : List (Option Addr)) (ts : List TrS) (wr : World) : Prop where
  own : wr.ownsRow w.heap.size 27 1 v (k + 1) (ps.map Value.pointer)
  all : AllIs wr ps ts
  fine : ∀ t ∈ ts, Fine (keysTo os k) t
  bel : Below w.heap.size w wr
theorem DepRel.len {w : World} {os : List OpT} {k : Nat} {v : Value} {ps : List (Option Addr)} {ts : List TrS} {wr : World} (h : DepRel w os k v ps ts wr) : ps.length = k + 1 ∧ ts.length = k + 1 := by
  have := h.own.1
  have := h.all.1
  simp at *
  omega
theorem DepRel.start (w : World) (os : List OpT) (wq : World) (hb : Below w.heap.size w wq) (hs : w.heap.size ≤ wq.heap.size) :
    DepRel w os 0 (.slice (some ⟨wq.heap.size, 0, none⟩) 1 1) [none] [.nil] (wq.alloc (.cells #[.pointer none] 27)) where
  own := World.ownsRow_lit wq #[.pointer none] 1 hs (by decide) (by simp)
  all := ⟨rfl, fun k p t hp ht => by
    cases k with
    | zero => simp at hp ht; subst hp ht; rfl
    | succ k => simp at hp⟩
  fine := fun t ht => by simp at ht; subst ht; exact Fine.nil _
  bel := hb.alloc hs _
theorem DepRel.push {w : World} {os : List OpT} {k : Nat} {v v2 : Value} {ps : List (Option Addr)} {ts : List TrS} {wr wa w3 : World} (h : DepRel w os k v ps ts wr) (hk : k < os.length) {r : Option Addr} {t : TrS}
    (ha : Below wr.heap.size wr wa) (hr : Is Value.string 98 wa r t) (ht : Fine (keysTo os (k + 1)) t) (hg : wa.grownBy w3 v.ownBlock)
    (ho : w3.ownsRow w.heap.size 27 1 v2 (k + 1 + 1) (ps.map Value.pointer ++ [.pointer r])) : DepRel w os (k + 1) v2 (ps ++ [r]) (ts ++ [t]) w3 where
  own := by rw [List.map_append]; exact ho
  all := by
    have hown := own_below h.own ha
    have hg' : ∀ {p : Option Addr} {u : TrS}, Is Value.string 98 wa p u → Is Value.string 98 w3 p u := fun hi => hi.grown hown (by decide) hg
    refine ⟨by rw [List.length_append, List.length_append, h.all.1]; rfl, fun i p u hp hu => ?_⟩
    have hl := h.all.1
    rcases Nat.lt_or_ge i ps.length with h1 | h1
    · rw [List.getElem?_append_left h1] at hp
      rw [List.getElem?_append_left (by omega)] at hu
      exact hg' ((h.all.2 i p u hp hu).below ha)
    · rw [List.getElem?_append_right h1] at hp
      rw [List.getElem?_append_right (by omega)] at hu
      have hi : i - ps.length = 0 := by have := (List.getElem?_eq_some_iff.1 hp).1; simp at this; omega
      rw [hi] at hp
      rw [← hl, hi] at hu
      simp at hp hu
      subst hp hu
      exact hg' hr
  fine := by
    intro u hu
    rcases List.mem_append.1 hu with h1 | h1
    · rw [keysTo_succ os k hk]; exact (h.fine u h1).more _
    · simp at h1; subst h1; exact ht
  bel := (h.bel.trans (ha.mono h.bel.size)).grown hg (by have := h.bel.size; have := ha.size; omega) (fun q hq => (h.own.lt q hq).1)
theorem DepRel.step {w : World} {os : List OpT} {k : Nat} {v : Value} {ps : List (Option Addr)} {ts : List TrS} {wr : World} (h : DepRel w os k v ps ts wr) (hk : k < os.length) : Fine (keysTo os (k + 1)) (stepV ts os[k]) := by
  rw [keysTo_succ os k hk]
  exact fine_step h.fine _
theorem DepRel.sizes {w : World} {os : List OpT} {k : Nat} {v : Value} {ps : List (Option Addr)} {ts : List TrS} {wr : World} (h : DepRel w os k v ps ts wr) (hk : k ≤ 120) : ∀ t ∈ ts, t.size ≤ 1000 := fun t ht => by
  have h1 := (h.fine t ht).le
  have h2 := keysTo_len os k
  omega
end Go.Proofs.Ytdffgkhlkbaecaa.Tok
