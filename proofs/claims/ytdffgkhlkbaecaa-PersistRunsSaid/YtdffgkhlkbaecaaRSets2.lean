/- The reference's sets: Classes. -/
import Derived.Test.YtdffgkhlkbaecaaRSets1
namespace Go.Proofs.Ytdffgkhlkbaecaa.Tok
open Go.RowKit Go.Proofs.Ytdffgkhlkbaecaa

theorem Lists.made {base : Nat} {w : World} (hz : base ≤ w.heap.size) : Lists base (w.alloc (.cells #[] 36)) (.slice (some ⟨w.heap.size, 0, Option.none⟩) 0 0) [] [] where
  len := rfl
  out := World.ownsRow_lit (base := base) (e := 36) (size := 1) w #[] 0 hz (by decide) (by simp)
  ins := fun i x l h => by simp at h
  apart := fun i j x y _ h => by simp at h
/-- One list more. -/
theorem Lists.push {base B1 : Nat} {w w1 : World} {v : Value} {vs : List Value} {L : List (List Nat)} (h : Lists base w v vs L) {x : Value} {l : List Nat} (hx : w.ownsRow B1 3 1 x l.length (nats l)) (hb : base ≤ B1)
    (hlt : ∀ y ∈ vs, ∀ q, y.ownBlock = some q → q < B1) {v1 : Value} (hg : w.grownBy w1 v.ownBlock) (ho : w1.ownsRow base 36 1 v1 (L.length + 1) (vs ++ [x])) : Lists base w1 v1 (vs ++ [x]) (L ++ [l]) where
  len := by simp [h.len]
  out := by simpa using ho
  ins := fun i y k h1 h2 => by
    rcases Nat.lt_or_ge i vs.length with hi | hi
    · rw [List.getElem?_append_left hi] at h1
      rw [List.getElem?_append_left (by rw [← h.len]; exact hi)] at h2
      have := h.ins i y k h1 h2
      exact this.kept hg (own_types this h.out (by decide))
    · rw [List.getElem?_append_right hi] at h1
      rw [List.getElem?_append_right (by rw [← h.len]; exact hi), ← h.len] at h2
      have hz : i - vs.length = 0 := by
        have := (List.getElem?_eq_some_iff.1 h1).1
        simp at this
        omega
      rw [hz] at h1 h2
      simp at h1 h2
      subst h1 h2
      have h3 := hx.kept hg (own_types hx h.out (by decide))
      exact ⟨h3.1, h3.2.imp id fun ⟨g, cap, cur, a, b, c⟩ => ⟨g, cap, cur, a, by omega, c⟩⟩
  apart := fun i j y z hij h1 h2 => by
    rcases Nat.lt_or_ge i vs.length with hi | hi
    · rw [List.getElem?_append_left hi] at h1
      rcases Nat.lt_or_ge j vs.length with hj | hj
      · rw [List.getElem?_append_left hj] at h2
        exact h.apart i j y z hij h1 h2
      · rw [List.getElem?_append_right hj] at h2
        have hz : j - vs.length = 0 := by
          have := (List.getElem?_eq_some_iff.1 h2).1
          simp at this
          omega
        rw [hz] at h2
        simp at h2
        subst h2
        cases hy : y.ownBlock with
        | none => exact .inl rfl
        | some q =>
          right
          intro e
          have h3 := hlt y (List.mem_of_getElem? h1) q hy
          have := (hx.lt q e.symm).1
          omega
    · rw [List.getElem?_append_right hi] at h1
      have hz : i - vs.length = 0 := by
        have := (List.getElem?_eq_some_iff.1 h1).1
        simp at this
        omega
      rw [hz] at h1
      simp at h1
      subst h1
      rcases Nat.lt_or_ge j vs.length with hj | hj
      · rw [List.getElem?_append_left hj] at h2
        cases hy : x.ownBlock with
        | none => exact .inl rfl
        | some q =>
          right
          intro e
          have h3 := hlt z (List.mem_of_getElem? h2) q e.symm
          have := (hx.lt q hy).1
          omega
      · rw [List.getElem?_append_right hj] at h2
        have := (List.getElem?_eq_some_iff.1 h2).1
        simp at this
        omega
theorem Lists.lt {base : Nat} {w : World} {v : Value} {vs : List Value} {L : List (List Nat)} (h : Lists base w v vs L) : ∀ y ∈ vs, ∀ q, y.ownBlock = some q → q < w.heap.size := fun y hy q hq => by
  obtain ⟨i, hi, rfl⟩ := List.mem_iff_getElem.1 hy
  exact ((h.ins i _ _ (List.getElem?_eq_getElem hi) (List.getElem?_eq_getElem (by rw [← h.len]; exact hi))).lt q hq).2
theorem rcls_succ (f : Nat → Nat) (n k : Nat) : rcls f n (k + 1) = if f k = k then rcls f n k ++ [(List.range' k (n - k)).filter fun b => f b == k] else rcls f n k := by
  unfold rcls
  rw [List.range_succ, List.filter_append, List.map_append]
  by_cases h : f k = k <;> simp [h]
theorem part_succ (f : Nat → Nat) {i j : Nat} (h : i ≤ j) : (List.range' i (j + 1 - i)).filter (fun b => f b == i) = (List.range' i (j - i)).filter (fun b => f b == i) ++ if f j = i then [j] else [] := by
  rw [show j + 1 - i = (j - i) + 1 by omega, List.range'_1_concat, List.filter_append, show i + (j - i) = j by omega]
  by_cases h : f j = i <;> simp [h]
theorem rcls_len (f : Nat → Nat) (n k : Nat) : (rcls f n k).length ≤ k := by
  unfold rcls
  rw [List.length_map]
  have := List.length_filter_le (fun i => f i == i) (List.range k)
  simpa using this
theorem part_len (f : Nat → Nat) (i m : Nat) : ((List.range' i m).filter fun b => f b == i).length ≤ m := by
  have := List.length_filter_le (fun b => f b == i) (List.range' i m)
  simpa using this
end Go.Proofs.Ytdffgkhlkbaecaa.Tok
