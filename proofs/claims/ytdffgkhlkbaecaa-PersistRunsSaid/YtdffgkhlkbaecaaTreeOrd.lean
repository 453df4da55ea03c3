/- Order: what stands in a tree, from left to right. Plain mathematics. -/
import Derived.Test.YtdffgkhlkbaecaaTreeMath
namespace Go.Proofs.Ytdffgkhlkbaecaa.Tok
namespace Tr
variable {α : Type}
def ents : Tr α → List (α × Int)
  | nil => []
  | node k x l r => l.ents ++ (k, x) :: r.ents
theorem ents_len (t : Tr α) : t.ents.length = t.size := by
  induction t with
  | nil => rfl
  | node k x l r ih1 ih2 => simp only [ents, size, List.length_append, List.length_cons, ih1, ih2]; omega
theorem ents_bal (l : Tr α) (k : α) (x : Int) (r : Tr α) : (bal l k x r).ents = l.ents ++ (k, x) :: r.ents := by
  unfold bal
  split
  · split
    · rfl
    · split
      · simp [ents]
      · split
        · rfl
        · simp [ents]
  · split
    · split
      · rfl
      · split
        · simp [ents]
        · split
          · rfl
          · simp [ents]
    · rfl
theorem ents_joinN : ∀ (n : Nat) (l : Tr α) (k : α) (x : Int) (r : Tr α), (joinN n l k x r).ents = l.ents ++ (k, x) :: r.ents
  | 0, _, _, _, _ => rfl
  | n + 1, l, k, x, r => by
    unfold joinN
    split
    · split
      · rfl
      · rw [ents_bal, ents_joinN n]; simp [ents]
    · split
      · split
        · rfl
        · rw [ents_bal, ents_joinN n]; simp [ents]
      · rfl
theorem ents_join (l : Tr α) (k : α) (x : Int) (r : Tr α) : (join l k x r).ents = l.ents ++ (k, x) :: r.ents := ents_joinN _ _ _ _ _
theorem ents_pop (l : Tr α) : ∀ (r : Tr α) (k : α) (x : Int), (pop k x l r).1 :: (pop k x l r).2.ents = (node k x l r).ents := by
  induction l with
  | nil => intro r k x; rfl
  | node lk lx ll lr ih1 ih2 =>
    intro r k x
    show (pop lk lx ll lr).1 :: (bal (pop lk lx ll lr).2 k x r).ents = _
    rw [ents_bal, ← List.cons_append, ih1]
    simp [ents]
theorem ents_concat (l r : Tr α) : (concat l r).ents = l.ents ++ r.ents := by
  cases r with
  | nil => simp [concat, ents]
  | node k x rl rr =>
    show (join l (pop k x rl rr).1.1 (pop k x rl rr).1.2 (pop k x rl rr).2).ents = _
    rw [ents_join, ← ents_pop]

structure CmpOk (c : α → α → Int) : Prop where
  trans : ∀ {a b d : α}, c a b < 0 → c b d < 0 → c a d < 0
  eq : ∀ {a b : α}, c a b = 0 ↔ a = b
  swap : ∀ {a b : α}, 0 < c a b ↔ c b a < 0
def Sorted (c : α → α → Int) (l : List (α × Int)) : Prop := l.Pairwise fun a b => c a.1 b.1 < 0
variable {c : α → α → Int}
theorem filter_all {l : List (α × Int)} {p : α × Int → Bool} (h : ∀ e ∈ l, p e = true) : l.filter p = l := List.filter_eq_self.2 h
theorem filter_none {l : List (α × Int)} {p : α × Int → Bool} (h : ∀ e ∈ l, p e = false) : l.filter p = [] := List.filter_eq_nil_iff.2 (fun e he => by rw [h e he]; simp)
def lows (c : α → α → Int) (p : α) (l : List (α × Int)) : List (α × Int) := l.filter fun e => decide (0 < c p e.1)
def highs (c : α → α → Int) (p : α) (l : List (α × Int)) : List (α × Int) := l.filter fun e => decide (c p e.1 < 0)
theorem lows_append (p : α) (l m : List (α × Int)) : lows c p (l ++ m) = lows c p l ++ lows c p m := List.filter_append ..
theorem highs_append (p : α) (l m : List (α × Int)) : highs c p (l ++ m) = highs c p l ++ highs c p m := List.filter_append ..
theorem sorted_node {k : α} {x : Int} {l r : List (α × Int)} (h : Sorted c (l ++ (k, x) :: r)) : Sorted c l ∧ Sorted c r ∧ (∀ e ∈ l, c e.1 k < 0) ∧ (∀ e ∈ r, c k e.1 < 0) := by
  unfold Sorted at *
  rw [List.pairwise_append] at h
  obtain ⟨h1, h2, h3⟩ := h
  rw [List.pairwise_cons] at h2
  exact ⟨h1, h2.2, fun e he => h3 e he _ List.mem_cons_self, fun e he => h2.1 e he⟩
theorem ents_split (ok : CmpOk c) (p : α) (t : Tr α) (h : Sorted c t.ents) : (split (c p) t).1.ents = lows c p t.ents ∧ (split (c p) t).2.ents = highs c p t.ents := by
  induction t with
  | nil => exact ⟨rfl, rfl⟩
  | node k x l r ih1 ih2 =>
    obtain ⟨hl, hr, h1, h2⟩ := sorted_node h
    obtain ⟨i1, i2⟩ := ih1 hl
    obtain ⟨j1, j2⟩ := ih2 hr
    simp only [ents, lows_append, highs_append]
    rcases Int.lt_trichotomy (c p k) 0 with g | g | g
    · rw [split_lt g]
      have hall : ∀ e ∈ (k, x) :: r.ents, c p e.1 < 0 := fun e he => by
        rcases List.mem_cons.1 he with rfl | he
        · exact g
        · exact ok.trans g (h2 e he)
      rw [show lows c p ((k, x) :: r.ents) = [] from filter_none fun e he => by have := hall e he; simp; omega,
        show highs c p ((k, x) :: r.ents) = (k, x) :: r.ents from filter_all fun e he => by have := hall e he; simp; omega]
      exact ⟨by rw [i1]; simp, by rw [ents_join, i2]⟩
    · rw [split_eq g]
      obtain rfl := ok.eq.1 g
      have hkk : c p p = 0 := ok.eq.2 rfl
      have hL : ∀ e ∈ l.ents, 0 < c p e.1 := fun e he => ok.swap.2 (h1 e he)
      rw [show lows c p l.ents = l.ents from filter_all fun e he => by have := hL e he; simp; omega,
        show highs c p l.ents = [] from filter_none fun e he => by have := hL e he; simp; omega,
        show lows c p ((p, x) :: r.ents) = [] from filter_none fun e he => by
          rcases List.mem_cons.1 he with rfl | he
          · simp; omega
          · have := h2 e he; simp; omega,
        show highs c p ((p, x) :: r.ents) = r.ents by
          show List.filter _ _ = _
          rw [List.filter_cons, if_neg (by simp; omega)]
          exact filter_all fun e he => by have := h2 e he; simp; omega]
      exact ⟨by simp, by simp⟩
    · rw [split_gt g]
      have hall : ∀ e ∈ l.ents, 0 < c p e.1 := fun e he => ok.swap.2 (ok.trans (h1 e he) (ok.swap.1 g))
      rw [show lows c p l.ents = l.ents from filter_all fun e he => by have := hall e he; simp; omega,
        show highs c p l.ents = [] from filter_none fun e he => by have := hall e he; simp; omega,
        show lows c p ((k, x) :: r.ents) = (k, x) :: lows c p r.ents by
          show List.filter _ _ = _
          rw [List.filter_cons, if_pos (by simpa using g)]; rfl,
        show highs c p ((k, x) :: r.ents) = highs c p r.ents by
          show List.filter _ _ = _
          rw [List.filter_cons, if_neg (by simp; omega)]; rfl]
      exact ⟨by rw [ents_join, j1], by rw [j2]; simp⟩
theorem sorted_sub {l m : List (α × Int)} (h : Sorted c m) (hs : List.Sublist l m) : Sorted c l := List.Pairwise.sublist hs h
theorem sorted_lows {p : α} {l : List (α × Int)} (h : Sorted c l) : Sorted c (lows c p l) := sorted_sub h List.filter_sublist
theorem sorted_highs {p : α} {l : List (α × Int)} (h : Sorted c l) : Sorted c (highs c p l) := sorted_sub h List.filter_sublist
theorem mem_lows {p : α} {l : List (α × Int)} {e : α × Int} : e ∈ lows c p l ↔ e ∈ l ∧ 0 < c p e.1 := by simp [lows]
theorem mem_highs {p : α} {l : List (α × Int)} {e : α × Int} : e ∈ highs c p l ↔ e ∈ l ∧ c p e.1 < 0 := by simp [highs]
theorem sorted_put (ok : CmpOk c) {p : α} {v : Int} {l : List (α × Int)} (h : Sorted c l) : Sorted c (lows c p l ++ (p, v) :: highs c p l) := by
  unfold Sorted
  rw [List.pairwise_append, List.pairwise_cons]
  refine ⟨sorted_lows h, ⟨fun e he => (mem_highs.1 he).2, sorted_highs h⟩, fun a ha b hb => ?_⟩
  have h1 := ok.swap.1 (mem_lows.1 ha).2
  rcases List.mem_cons.1 hb with rfl | hb
  · exact h1
  · exact ok.trans h1 (mem_highs.1 hb).2
theorem sorted_cut (ok : CmpOk c) {p : α} {l : List (α × Int)} (h : Sorted c l) : Sorted c (lows c p l ++ highs c p l) := by
  unfold Sorted
  rw [List.pairwise_append]
  exact ⟨sorted_lows h, sorted_highs h, fun a ha b hb => ok.trans (ok.swap.1 (mem_lows.1 ha).2) (mem_highs.1 hb).2⟩
/-- Where each key is one of a list, there are no more than these. -/
theorem nodup_le : ∀ (l m : List α), l.Nodup → (∀ x ∈ l, x ∈ m) → l.length ≤ m.length
  | [], _, _, _ => Nat.zero_le _
  | a :: l, m, hn, hs => by
    obtain ⟨m1, m2, rfl⟩ := List.append_of_mem (hs a List.mem_cons_self)
    rw [List.nodup_cons] at hn
    have := nodup_le l (m1 ++ m2) hn.2 fun x hx => by
      have h1 := hs x (List.mem_cons_of_mem _ hx)
      rw [List.mem_append, List.mem_cons] at h1
      rw [List.mem_append]
      rcases h1 with h1 | h1 | h1
      · exact .inl h1
      · subst h1; exact absurd hx hn.1
      · exact .inr h1
    simp only [List.length_cons, List.length_append] at this ⊢
    omega
theorem sorted_le (ok : CmpOk c) {l : List (α × Int)} {m : List α} (h : Sorted c l) (hs : ∀ e ∈ l, e.1 ∈ m) : l.length ≤ m.length := by
  have hn : (l.map (·.1)).Nodup := by
    unfold List.Nodup
    rw [List.pairwise_map]
    exact List.Pairwise.imp (fun {a b} hab he => by rw [he, ok.eq.2 rfl] at hab; omega) h
  have := nodup_le (l.map (·.1)) m hn fun x hx => by
    obtain ⟨e, he, rfl⟩ := List.mem_map.1 hx
    exact hs e he
  simpa using this

/-- The entry with an index. -/
def nth : Tr α → Int → Option (α × Int)
  | nil, _ => none
  | node k x l r, i => if i = l.size then some (k, x) else if i < l.size then l.nth i else r.nth (i - (l.size + 1))
theorem nth_node (k : α) (x : Int) (l r : Tr α) (i : Int) : nth (node k x l r) i = if i = l.size then some (k, x) else if i < l.size then l.nth i else r.nth (i - (l.size + 1)) := rfl
theorem nth_ents (t : Tr α) : ∀ i : Int, t.nth i = if 0 ≤ i then t.ents[i.toNat]? else none := by
  induction t with
  | nil => intro i; simp [nth, ents]
  | node k x l r ih1 ih2 =>
    intro i
    rw [nth_node, ents]
    have hlen := l.ents_len
    by_cases h1 : i = l.size
    · rw [if_pos h1, if_pos (by omega), List.getElem?_append_right (by omega), show i.toNat - l.ents.length = 0 by omega]
      rfl
    · rw [if_neg h1]
      by_cases h2 : i < l.size
      · rw [if_pos h2, ih1]
        by_cases h3 : 0 ≤ i
        · rw [if_pos h3, if_pos h3, List.getElem?_append_left (by omega)]
        · rw [if_neg h3, if_neg h3]
      · rw [if_neg h2, ih2, if_pos (by omega), if_pos (by omega), List.getElem?_append_right (by omega)]
        rw [show i.toNat - l.ents.length = (i - (l.size + 1)).toNat + 1 by omega]
        rfl
/-- How many keys are less than p. -/
def rank (c : α → Int) : Tr α → Nat
  | nil => 0
  | node k _ l r => if 0 < c k then l.size + 1 + r.rank c else l.rank c
theorem rank_le (p : α → Int) (t : Tr α) : t.rank p ≤ t.size := by
  induction t with
  | nil => exact Nat.le_refl _
  | node k x l r ih1 ih2 => simp only [rank, size]; split <;> omega
/-- The value of the pivot. -/
def get (c : α → Int) : Tr α → Option Int
  | nil => none
  | node k x l r => if c k = 0 then some x else if c k < 0 then l.get c else r.get c
end Tr
end Go.Proofs.Ytdffgkhlkbaecaa.Tok
