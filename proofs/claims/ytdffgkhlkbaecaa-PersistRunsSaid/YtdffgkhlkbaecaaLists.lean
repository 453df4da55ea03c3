/- Lists of numbers that the call makes: a row of slices, each with a row of its own. -/
import Derived.Test.YtdffgkhlkbaecaaClsMath
import Derived.Test.YtdffgkhlkbaecaaUnion
import Derived.Test.YtdffgkhlkbaecaaAppend
import Derived.Deep.AppendLies
namespace Go.Proofs.Ytdffgkhlkbaecaa.Tok
open Go.RowKit Go.Proofs.Ytdffgkhlkbaecaa

def nats (l : List Nat) : List Value := l.map fun x => .int .i64 (x : Nat)
theorem nats_len (l : List Nat) : (nats l).length = l.length := by simp [nats]
theorem nats_snoc (l : List Nat) (a : Nat) : nats l ++ [.int .i64 (a : Nat)] = nats (l ++ [a]) := by simp [nats]
/-- The rows of two slices of other types are apart. -/
theorem own_types {w : World} {b b' e e' z z' n n' : Nat} {v v' : Value} {xs xs' : List Value} (h : w.ownsRow b e z v n xs) (h' : w.ownsRow b' e' z' v' n' xs') (hne : e ≠ e') : v.ownBlock = none ∨ v.ownBlock ≠ v'.ownBlock := by
  rcases h.2 with ⟨rfl, _⟩ | ⟨g, cap, cur, rfl, _, h1, _⟩
  · exact .inl rfl
  · right
    intro he
    rcases h'.2 with ⟨rfl, _⟩ | ⟨g', cap', cur', rfl, _, h2, _⟩
    · cases he
    · injection he with he
      subst he
      rw [h1] at h2
      injection h2 with h2
      injection h2 with _ h2
      exact hne h2
structure Lists (base : Nat) (w : World) (v : Value) (vs : List Value) (L : List (List Nat)) : Prop where
  len : vs.length = L.length
  out : w.ownsRow base 36 1 v L.length vs
  ins : ∀ (i : Nat) (x : Value) (l : List Nat), vs[i]? = some x → L[i]? = some l → w.ownsRow base 3 1 x l.length (nats l)
  apart : ∀ (i j : Nat) (x y : Value), i ≠ j → vs[i]? = some x → vs[j]? = some y → x.ownBlock = none ∨ x.ownBlock ≠ y.ownBlock
section
variable {base : Nat} {w w1 : World} {v : Value} {vs : List Value} {L : List (List Nat)}
theorem Lists.none (base : Nat) (w : World) : Lists base w (.slice none 0 0) [] [] where
  len := rfl
  out := World.ownsRow_nil _ _ _ _
  ins := fun i x l h => by simp at h
  apart := fun i j x y _ h => by simp at h
theorem Lists.below (h : Lists base w v vs L) (hb : Below w.heap.size w w1) : Lists base w1 v vs L where
  len := h.len
  out := own_below h.out hb
  ins := fun i x l h1 h2 => own_below (h.ins i x l h1 h2) hb
  apart := h.apart
theorem Lists.keep (h : Lists base w v vs L) (hk : ∀ i, i < w.heap.size → (∃ cs t fr, w.heap[i]? = some (.cells cs t fr)) → w1.heap[i]? = w.heap[i]?) : Lists base w1 v vs L := by
  have k : ∀ {e z n : Nat} {x : Value} {xs : List Value}, w.ownsRow base e z x n xs → w1.ownsRow base e z x n xs := by
    intro e z n x xs hx
    refine ⟨hx.1, ?_⟩
    rcases hx.2 with h1 | ⟨g, cap, cur, rfl, hb, hh, hr⟩
    · exact .inl h1
    · exact .inr ⟨g, cap, cur, rfl, hb, (hk g (Array.getElem?_eq_some_iff.1 hh).1 ⟨_, _, _, hh⟩).trans hh, hr⟩
  exact ⟨h.len, k h.out, fun i x l h1 h2 => k (h.ins i x l h1 h2), h.apart⟩
/-- A nil list more. -/
theorem Lists.more (h : Lists base w v vs L) {v1 : Value} (hg : w.grownBy w1 v.ownBlock) (ho : w1.ownsRow base 36 1 v1 (L.length + 1) (vs ++ [.slice Option.none 0 0])) : Lists base w1 v1 (vs ++ [.slice Option.none 0 0]) (L ++ [[]]) where
  len := by simp [h.len]
  out := by simpa using ho
  ins := fun i x l h1 h2 => by
    rcases Nat.lt_or_ge i vs.length with hi | hi
    · rw [List.getElem?_append_left hi] at h1
      rw [List.getElem?_append_left (by rw [← h.len]; exact hi)] at h2
      have := h.ins i x l h1 h2
      exact this.kept hg (own_types this h.out (by decide))
    · rw [List.getElem?_append_right hi] at h1
      rw [List.getElem?_append_right (by rw [← h.len]; exact hi), ← h.len] at h2
      have hz : i - vs.length = 0 := by
        have := (List.getElem?_eq_some_iff.1 h1).1
        simp at this
        omega
      rw [hz] at h1 h2
      simp at h1 h2
      subst h1 h2
      exact World.ownsRow_nil _ _ _ _
  apart := fun i j x y hij h1 h2 => by
    rcases Nat.lt_or_ge i vs.length with hi | hi
    · rw [List.getElem?_append_left hi] at h1
      rcases Nat.lt_or_ge j vs.length with hj | hj
      · rw [List.getElem?_append_left hj] at h2
        exact h.apart i j x y hij h1 h2
      · rw [List.getElem?_append_right hj] at h2
        have hz : j - vs.length = 0 := by
          have := (List.getElem?_eq_some_iff.1 h2).1
          simp at this
          omega
        rw [hz] at h2
        simp at h2
        subst h2
        cases hx : x.ownBlock
        · exact .inl rfl
        · exact .inr (by intro e; cases e)
    · rw [List.getElem?_append_right hi] at h1
      have hz : i - vs.length = 0 := by
        have := (List.getElem?_eq_some_iff.1 h1).1
        simp at this
        omega
      rw [hz] at h1
      simp at h1
      subst h1
      exact .inl rfl
/-- A number more in one of the lists. -/
theorem Lists.put {b n c : Nat} (h : Lists base w (.slice (some ⟨b, 0, Option.none⟩) n c) vs L) {i g m cap : Nat} {x : Value} {l l' : List Nat} (hx : vs[i]? = some x) (hl : L[i]? = some l) (hg : w.grownBy w1 x.ownBlock)
    (ho : w1.ownsRow base 3 1 (.slice (some ⟨g, 0, Option.none⟩) m cap) l'.length (nats l')) (hat : x.ownBlock = some g ∨ w.heap.size ≤ g) :
    Lists base (w1.setCell ⟨b, i, Option.none⟩ (.slice (some ⟨g, 0, Option.none⟩) m cap)) (.slice (some ⟨b, 0, Option.none⟩) n c) (vs.set i (.slice (some ⟨g, 0, Option.none⟩) m cap)) (L.set i l') := by
  have hi := (List.getElem?_eq_some_iff.1 hx).1
  have hiL := (List.getElem?_eq_some_iff.1 hl).1
  have hb : b < w.heap.size := (h.out.lt b rfl).2
  have hbx : some b ≠ x.ownBlock := by
    rcases own_types h.out (h.ins i x l hx hl) (by decide) with h1 | h1
    · cases h1
    · exact h1
  have hbg : b ≠ g := by
    rcases hat with h1 | h1
    · intro e; exact hbx (by rw [h1, e])
    · omega
  have hn : n = L.length := by
    rcases h.out.2 with ⟨h1, _⟩ | ⟨g', cap', cur', h1, _⟩
    · cases h1
    · injection h1
  have hout := (h.out.kept hg (.inr hbx))
  rw [hn] at hout ⊢
  refine ⟨by simp [h.len], ?_, fun j y k h1 h2 => ?_, fun j k y z hjk h1 h2 => ?_⟩
  · have := (hout.stored i (.slice (some ⟨g, 0, Option.none⟩) m cap)).1
    simpa using this
  · by_cases e : j = i
    · subst e
      rw [List.getElem?_set_self hi] at h1
      rw [List.getElem?_set_self hiL] at h2
      injection h1 with h1
      injection h2 with h2
      subst h1 h2
      exact own_setCell_other ho (by show some b ≠ some g; intro e; injection e with e; exact hbg e) _
    · rw [List.getElem?_set_ne (fun e' => e e'.symm)] at h1 h2
      have h3 := h.ins j y k h1 h2
      have h4 := h.apart j i y x e h1 hx
      exact own_setCell_other (h3.kept hg h4) (by
        show some b ≠ y.ownBlock
        rcases own_types h.out h3 (by decide) with h5 | h5
        · cases h5
        · exact h5) _
  · by_cases e : j = i
    · subst e
      rw [List.getElem?_set_self hi] at h1
      rw [List.getElem?_set_ne (by omega)] at h2
      injection h1 with h1
      subst h1
      right
      show some g ≠ z.ownBlock
      rcases hat with h3 | h3
      · rw [← h3]
        rcases h.apart j k x z hjk hx h2 with h4 | h4
        · rw [h3] at h4; cases h4
        · exact h4
      · intro e'
        obtain ⟨l2, hl2⟩ : ∃ l2, L[k]? = some l2 := ⟨_, List.getElem?_eq_getElem (by rw [← h.len]; exact (List.getElem?_eq_some_iff.1 h2).1)⟩
        have := ((h.ins k z l2 h2 hl2).lt g e'.symm).2
        omega
    · rw [List.getElem?_set_ne (fun e' => e e'.symm)] at h1
      by_cases e2 : k = i
      · subst e2
        rw [List.getElem?_set_self hi] at h2
        injection h2 with h2
        subst h2
        show y.ownBlock = Option.none ∨ y.ownBlock ≠ some g
        rcases hat with h3 | h3
        · rw [← h3]
          exact h.apart j k y x hjk h1 hx
        · obtain ⟨l2, hl2⟩ : ∃ l2, L[j]? = some l2 := ⟨_, List.getElem?_eq_getElem (by rw [← h.len]; exact (List.getElem?_eq_some_iff.1 h1).1)⟩
          right
          intro e'
          have := ((h.ins j y l2 h1 hl2).lt g e').2
          omega
      · rw [List.getElem?_set_ne (fun e' => e2 e'.symm)] at h2
        exact h.apart j k y z hjk h1 h2
end
end Go.Proofs.Ytdffgkhlkbaecaa.Tok
