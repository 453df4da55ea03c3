/- The classes of a numbering, in the order of their first numbers: plain mathematics. -/
import Derived.Test.YtdffgkhlkbaecaaSetsMath
import Derived.Maps.OwnSet
namespace Go.Proofs.Ytdffgkhlkbaecaa.Tok

def firsts (f : Nat → Nat) : Nat → List Nat
  | 0 => []
  | k + 1 => if f k ∈ firsts f k then firsts f k else firsts f k ++ [f k]
def clsOf (f : Nat → Nat) (k r : Nat) : List Nat := (List.range k).filter fun b => f b == r
def cls (f : Nat → Nat) (k : Nat) : List (List Nat) := (firsts f k).map (clsOf f k)
section
variable {f : Nat → Nat} {k : Nat}
theorem mem_firsts : ∀ (k r : Nat), r ∈ firsts f k ↔ ∃ b, b < k ∧ f b = r
  | 0, r => by simp [firsts]
  | k + 1, r => by
    have ih := mem_firsts k
    unfold firsts
    constructor
    · intro h
      split at h
      · obtain ⟨b, hb, e⟩ := (ih r).1 h
        exact ⟨b, by omega, e⟩
      · rcases List.mem_append.1 h with h | h
        · obtain ⟨b, hb, e⟩ := (ih r).1 h
          exact ⟨b, by omega, e⟩
        · simp at h
          exact ⟨k, by omega, h.symm⟩
    · rintro ⟨b, hb, rfl⟩
      rcases Nat.lt_or_ge b k with h | h
      · have := (ih (f b)).2 ⟨b, h, rfl⟩
        split
        · exact this
        · exact List.mem_append_left _ this
      · have : b = k := by omega
        subst this
        split
        · assumption
        · simp
theorem firsts_nodup : ∀ k : Nat, (firsts f k).Nodup
  | 0 => by simp [firsts]
  | k + 1 => by
    have ih := firsts_nodup k
    unfold firsts
    split
    · exact ih
    · rename_i h
      rw [List.nodup_append]
      refine ⟨ih, by simp, ?_⟩
      intro a ha b hb
      simp at hb
      subst hb
      rintro rfl
      exact h ha
theorem firsts_len (k : Nat) : (firsts f k).length ≤ k := by
  induction k with
  | zero => simp [firsts]
  | succ k ih =>
    unfold firsts
    split
    · omega
    · simp; omega
theorem clsOf_succ (k r : Nat) : clsOf f (k + 1) r = if f k = r then clsOf f k r ++ [k] else clsOf f k r := by
  unfold clsOf
  rw [List.range_succ, List.filter_append]
  by_cases h : f k = r <;> simp [h]
theorem clsOf_len (k r : Nat) : (clsOf f k r).length ≤ k := by
  unfold clsOf
  have := List.length_filter_le (fun b => f b == r) (List.range k)
  simpa using this
theorem map_set_idx {x : Nat} {g g' : Nat → List Nat} : ∀ {L : List Nat}, x ∈ L → L.Nodup → (∀ y, y ≠ x → g' y = g y) → L.map g' = (L.map g).set (L.idxOf x) (g' x)
  | [], hx, _, _ => by simp at hx
  | y :: L, hx, hn, h => by
    have hn' := List.nodup_cons.1 hn
    by_cases e : y = x
    · subst e
      rw [List.idxOf_cons_self, List.map_cons, List.map_cons, List.set_cons_zero]
      congr 1
      apply List.map_congr_left
      intro z hz
      exact h z (fun e1 => hn'.1 (by rw [← e1]; exact hz))
    · have hx' : x ∈ L := by
        rcases List.mem_cons.1 hx with h1 | h1
        · exact absurd h1.symm e
        · exact h1
      rw [List.idxOf_cons, beq_false_of_ne e, cond_false, List.map_cons, List.map_cons, List.set_cons_succ, ← map_set_idx hx' hn'.2 h, h y e]
theorem cls_known (h : f k ∈ firsts f k) : cls f (k + 1) = (cls f k).set ((firsts f k).idxOf (f k)) (clsOf f k (f k) ++ [k]) := by
  have e : firsts f (k + 1) = firsts f k := by
    show (if f k ∈ firsts f k then firsts f k else firsts f k ++ [f k]) = _
    rw [if_pos h]
  unfold cls
  rw [e, map_set_idx (g := clsOf f k) (x := f k) h (firsts_nodup k) (fun y hy => by rw [clsOf_succ, if_neg (fun e => hy e.symm)]), clsOf_succ, if_pos rfl]
theorem cls_known_get (h : f k ∈ firsts f k) : (cls f k)[(firsts f k).idxOf (f k)]? = some (clsOf f k (f k)) := by
  unfold cls
  rw [List.getElem?_map, List.getElem?_eq_getElem (List.idxOf_lt_length_iff.2 h), List.getElem_idxOf]
  rfl
theorem cls_new (h : f k ∉ firsts f k) : cls f (k + 1) = cls f k ++ [[k]] := by
  have e : firsts f (k + 1) = firsts f k ++ [f k] := by
    show (if f k ∈ firsts f k then firsts f k else firsts f k ++ [f k]) = _
    rw [if_neg h]
  unfold cls
  rw [e, List.map_append]
  congr 1
  · apply List.map_congr_left
    intro y hy
    rw [clsOf_succ, if_neg (fun e1 => h (by rw [e1]; exact hy))]
  · simp only [List.map_cons, List.map_nil]
    rw [clsOf_succ, if_pos rfl]
    have : clsOf f k (f k) = [] := by
      unfold clsOf
      rw [List.filter_eq_nil_iff]
      intro b hb
      simp only [beq_iff_eq]
      intro e
      exact h ((mem_firsts k (f k)).2 ⟨b, by simpa using hb, e⟩)
    rw [this]
    rfl
theorem cls_len (k : Nat) : (cls f k).length = (firsts f k).length := by unfold cls; simp
end
/-- What the map from roots to places holds. -/
def PlcD {H : Type} (D : DataW H) (R : List Nat) : Prop :=
  Maps.IsMap D ∧ ∀ r : Nat, Maps.has D (.int .i64 (r : Nat)) = decide (r ∈ R) ∧ (r ∈ R → ∀ z, D.atKey (.int .i64 (r : Nat)) z = .lit (.int .i64 ((R.idxOf r : Nat) : Int)))
theorem PlcD.none {H : Type} : PlcD (H := H) (.map []) [] := ⟨Maps.isMap_empty, fun r => ⟨rfl, fun h => by simp at h⟩⟩
theorem PlcD.put {H : Type} {D : DataW H} {R : List Nat} (h : PlcD D R) {r : Nat} (hr : r ∉ R) : PlcD (D.put (.int .i64 (r : Nat)) (.lit (.int .i64 ((R.length : Nat) : Int)))) (R ++ [r]) := by
  have hk : WideAt.IsKeyLit (.int .i64 (r : Nat)) := trivial
  refine ⟨h.1.put _ _, fun q => ?_⟩
  by_cases e : q = r
  · subst e
    refine ⟨by rw [Maps.has_put_same h.1 hk]; simp, fun _ z => ?_⟩
    rw [Maps.atKey_put_same h.1 hk]
    congr 3
    rw [List.idxOf_append, if_neg hr]
    simp
  · have hne : (Lit.int .i64 (q : Nat)) ≠ .int .i64 (r : Nat) := by
      intro e1
      injection e1 with _ e1
      exact e (by omega)
    obtain ⟨h1, h2⟩ := h.2 q
    refine ⟨by rw [Maps.has_put_other hne, h1]; simp [e], fun hq z => ?_⟩
    have hq' : q ∈ R := by
      rcases List.mem_append.1 hq with h3 | h3
      · exact h3
      · simp at h3; exact absurd h3 e
    rw [Maps.atKey_put_other hne, h2 hq']
    congr 3
    rw [List.idxOf_append, if_pos hq']
end Go.Proofs.Ytdffgkhlkbaecaa.Tok
