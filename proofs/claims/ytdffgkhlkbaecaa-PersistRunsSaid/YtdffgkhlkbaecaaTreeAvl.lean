/- Balance: what join, split and concat make of balanced trees is balanced. Plain mathematics. -/
import Derived.Test.YtdffgkhlkbaecaaTreeMath
namespace Go.Proofs.Ytdffgkhlkbaecaa.Tok
namespace Tr
variable {α : Type}
def Bd : Tr α → Prop
  | nil => True
  | node _ _ l r => l.height ≤ r.height + 1 ∧ r.height ≤ l.height + 1 ∧ l.Bd ∧ r.Bd
theorem bal_mid {l r : Tr α} {k : α} {x : Int} (h1 : l.height ≠ r.height + 2) (h2 : r.height ≠ l.height + 2) : bal l k x r = node k x l r := by unfold bal; rw [if_neg h1, if_neg h2]
/-- Two trees whose heights differ by at most 2. -/
theorem bd_bal {l r : Tr α} {k : α} {x : Int} (hl : l.Bd) (hr : r.Bd) (h1 : l.height ≤ r.height + 2) (h2 : r.height ≤ l.height + 2) :
    (bal l k x r).Bd ∧ ((l.height ≤ r.height + 1 ∧ r.height ≤ l.height + 1 ∧ (bal l k x r).height = max l.height r.height + 1) ∨
      ((l.height = r.height + 2 ∨ r.height = l.height + 2) ∧ max l.height r.height ≤ (bal l k x r).height ∧ (bal l k x r).height ≤ max l.height r.height + 1)) := by
  by_cases e1 : l.height = r.height + 2
  · unfold bal
    rw [if_pos e1]
    cases l with
    | nil => simp [height] at e1
    | node lk lx ll lr =>
      obtain ⟨a1, a2, a3, a4⟩ := hl
      simp only [height] at e1 h1 h2 a1 a2
      by_cases c : lr.height ≤ ll.height
      · simp only [if_pos c]
        simp only [Bd, height]
        exact ⟨⟨by omega, by omega, a3, by omega, by omega, a4, hr⟩, .inr ⟨.inl (by omega), by omega, by omega⟩⟩
      · simp only [if_neg c]
        cases lr with
        | nil => simp [height] at c
        | node ik ix il ir =>
          obtain ⟨b1, b2, b3, b4⟩ := a4
          simp only [height] at e1 a1 a2 c
          simp only [Bd, height]
          exact ⟨⟨by omega, by omega, ⟨by omega, by omega, a3, b3⟩, by omega, by omega, b4, hr⟩, .inr ⟨.inl (by omega), by omega, by omega⟩⟩
  · by_cases e2 : r.height = l.height + 2
    · unfold bal
      rw [if_neg e1, if_pos e2]
      cases r with
      | nil => simp [height] at e2
      | node lk lx ll lr =>
        obtain ⟨a1, a2, a3, a4⟩ := hr
        simp only [height] at e2 h1 h2 a1 a2
        by_cases c : ll.height ≤ lr.height
        · simp only [if_pos c]
          simp only [Bd, height]
          exact ⟨⟨by omega, by omega, ⟨by omega, by omega, hl, a3⟩, a4⟩, .inr ⟨.inr (by omega), by omega, by omega⟩⟩
        · simp only [if_neg c]
          cases ll with
          | nil => simp [height] at c
          | node ik ix il ir =>
            obtain ⟨b1, b2, b3, b4⟩ := a3
            simp only [height] at e2 a1 a2 c
            simp only [Bd, height]
            exact ⟨⟨by omega, by omega, ⟨by omega, by omega, hl, b3⟩, by omega, by omega, b4, a4⟩, .inr ⟨.inr (by omega), by omega, by omega⟩⟩
    · rw [bal_mid e1 e2]
      exact ⟨⟨by omega, by omega, hl, hr⟩, .inl ⟨by omega, by omega, rfl⟩⟩
theorem bd_joinN : ∀ (n : Nat) (l r : Tr α) (k : α) (x : Int), l.size + r.size ≤ n → l.Bd → r.Bd →
    (joinN n l k x r).Bd ∧ max l.height r.height ≤ (joinN n l k x r).height ∧ (joinN n l k x r).height ≤ max l.height r.height + 1
  | 0, l, r, k, x, hs, hl, hr => by
    have h1 := l.height_le
    have h2 := r.height_le
    show (node k x l r).Bd ∧ _ ≤ (node k x l r).height ∧ (node k x l r).height ≤ _
    exact ⟨⟨by omega, by omega, hl, hr⟩, by simp only [height]; omega, by simp only [height]; omega⟩
  | n + 1, l, r, k, x, hs, hl, hr => by
    unfold joinN
    by_cases c1 : r.height + 1 < l.height
    · rw [if_pos c1]
      cases l with
      | nil => simp [height] at c1
      | node lk lx ll lr =>
        obtain ⟨a1, a2, a3, a4⟩ := hl
        simp only [size] at hs
        obtain ⟨i1, i2, i3⟩ := bd_joinN n lr r k x (by omega) a4 hr
        simp only [height] at c1
        show (bal ll lk lx (joinN n lr k x r)).Bd ∧ _ ≤ (bal ll lk lx (joinN n lr k x r)).height ∧ (bal ll lk lx (joinN n lr k x r)).height ≤ _
        obtain ⟨g1, g2⟩ := bd_bal (k := lk) (x := lx) a3 i1 (by omega) (by omega)
        simp only [height]
        refine ⟨g1, ?_, ?_⟩ <;> rcases g2 with ⟨_, _, g⟩ | ⟨_, g, g'⟩ <;> omega
    · rw [if_neg c1]
      by_cases c2 : l.height + 1 < r.height
      · rw [if_pos c2]
        cases r with
        | nil => simp [height] at c2
        | node rk rx rl rr =>
          obtain ⟨a1, a2, a3, a4⟩ := hr
          simp only [size] at hs
          obtain ⟨i1, i2, i3⟩ := bd_joinN n l rl k x (by omega) hl a3
          simp only [height] at c2
          show (bal (joinN n l k x rl) rk rx rr).Bd ∧ _ ≤ (bal (joinN n l k x rl) rk rx rr).height ∧ (bal (joinN n l k x rl) rk rx rr).height ≤ _
          obtain ⟨g1, g2⟩ := bd_bal (k := rk) (x := rx) i1 a4 (by omega) (by omega)
          simp only [height]
          refine ⟨g1, ?_, ?_⟩ <;> rcases g2 with ⟨_, _, g⟩ | ⟨_, g, g'⟩ <;> omega
      · rw [if_neg c2]
        exact ⟨⟨by omega, by omega, hl, hr⟩, by simp only [height]; omega, by simp only [height]; omega⟩
theorem bd_join {l r : Tr α} {k : α} {x : Int} (hl : l.Bd) (hr : r.Bd) : (join l k x r).Bd := (bd_joinN _ l r k x (Nat.le_refl _) hl hr).1
theorem bd_pop (l : Tr α) : ∀ (r : Tr α) (k : α) (x : Int), (node k x l r).Bd → (pop k x l r).2.Bd ∧ (pop k x l r).2.height ≤ (node k x l r).height ∧ (node k x l r).height ≤ (pop k x l r).2.height + 1 := by
  induction l with
  | nil =>
    intro r k x h
    obtain ⟨a1, a2, a3, a4⟩ := h
    simp only [height] at a1 a2
    show r.Bd ∧ r.height ≤ _ ∧ _ ≤ r.height + 1
    exact ⟨a4, by simp only [height]; omega, by simp only [height]; omega⟩
  | node lk lx ll lr ih1 ih2 =>
    intro r k x h
    obtain ⟨a1, a2, a3, a4⟩ := h
    obtain ⟨i1, i2, i3⟩ := ih1 lr lk lx a3
    show (bal (pop lk lx ll lr).2 k x r).Bd ∧ (bal (pop lk lx ll lr).2 k x r).height ≤ _ ∧ _ ≤ (bal (pop lk lx ll lr).2 k x r).height + 1
    obtain ⟨g1, g2⟩ := bd_bal (k := k) (x := x) i1 a4 (by omega) (by omega)
    rw [show (node k x (node lk lx ll lr) r).height = max (node lk lx ll lr).height r.height + 1 from rfl]
    refine ⟨g1, ?_, ?_⟩ <;> rcases g2 with ⟨_, _, g⟩ | ⟨_, g, g'⟩ <;> omega
theorem bd_concat {l r : Tr α} (hl : l.Bd) (hr : r.Bd) : (concat l r).Bd := by
  cases r with
  | nil => exact hl
  | node k x rl rr => exact bd_join hl (bd_pop rl rr k x hr).1
theorem bd_split (c : α → Int) (t : Tr α) (h : t.Bd) : (split c t).1.Bd ∧ (split c t).2.Bd := by
  induction t with
  | nil => exact ⟨trivial, trivial⟩
  | node k x l r ih1 ih2 =>
    obtain ⟨_, _, a3, a4⟩ := h
    rcases Int.lt_trichotomy (c k) 0 with h1 | h1 | h1
    · rw [split_lt h1]; exact ⟨(ih1 a3).1, bd_join (ih1 a3).2 a4⟩
    · rw [split_eq h1]; exact ⟨a3, a4⟩
    · rw [split_gt h1]; exact ⟨bd_join a3 (ih2 a4).1, (ih2 a4).2⟩
theorem size_lt (t : Tr α) : t.size + 1 ≤ 2 ^ t.height := by
  induction t with
  | nil => exact Nat.le_refl _
  | node k x l r ih1 ih2 =>
    simp only [size, height]
    have h1 : 2 ^ l.height ≤ 2 ^ (max l.height r.height) := Nat.pow_le_pow_right (by omega) (by omega)
    have h2 : 2 ^ r.height ≤ 2 ^ (max l.height r.height) := Nat.pow_le_pow_right (by omega) (by omega)
    rw [Nat.pow_succ]
    omega
theorem sq_add {a b m : Nat} (ha : 2 * m ≤ a * a) (hb : m ≤ b * b) : 4 * m ≤ (a + b) * (a + b) := by
  have hab : m ≤ a * b := by
    rcases Nat.lt_or_ge (a * b) m with h | h
    · exfalso
      have h1 : a * b * (a * b) < m * m := Nat.mul_lt_mul'' h h
      have h2 : m * m ≤ (a * a) * (b * b) := Nat.mul_le_mul (by omega) hb
      have h3 : a * b * (a * b) = (a * a) * (b * b) := by rw [Nat.mul_mul_mul_comm]
      omega
    · exact h
  have : (a + b) * (a + b) = a * a + 2 * (a * b) + b * b := by
    rw [Nat.add_mul, Nat.mul_add, Nat.mul_add, Nat.mul_comm b a]; omega
  omega
theorem depth_le (t : Tr α) (h : t.Bd) : 2 ^ t.height ≤ (t.size + 1) * (t.size + 1) := by
  induction t with
  | nil => exact Nat.le_refl _
  | node k x l r ih1 ih2 =>
    obtain ⟨a1, a2, a3, a4⟩ := h
    have i1 := ih1 a3
    have i2 := ih2 a4
    have key : ∀ (u v : Tr α), v.height ≤ u.height → u.height ≤ v.height + 1 → 2 ^ u.height ≤ (u.size + 1) * (u.size + 1) → 2 ^ v.height ≤ (v.size + 1) * (v.size + 1) → 2 ^ (u.height + 1) ≤ (u.size + 1 + (v.size + 1)) * (u.size + 1 + (v.size + 1)) := by
      intro u v g1 g2 j1 j2
      cases hu : u.height with
      | zero =>
        have : 2 * 2 ≤ (u.size + 1 + (v.size + 1)) * (u.size + 1 + (v.size + 1)) := Nat.mul_le_mul (by omega) (by omega)
        omega
      | succ n =>
        rw [hu, Nat.pow_succ] at j1
        have hv : 2 ^ n ≤ 2 ^ v.height := Nat.pow_le_pow_right (by omega) (by omega)
        have := sq_add (a := u.size + 1) (b := v.size + 1) (m := 2 ^ n) (by omega) (by omega)
        rw [Nat.pow_succ, Nat.pow_succ]
        omega
    simp only [size, height]
    rcases Nat.le_total r.height l.height with g | g
    · rw [Nat.max_eq_left g]
      have := key l r g (by omega) i1 i2
      rw [show l.size + 1 + r.size + 1 = l.size + 1 + (r.size + 1) by omega]
      exact this
    · rw [Nat.max_eq_right g]
      have := key r l g (by omega) i2 i1
      rw [show l.size + 1 + r.size + 1 = r.size + 1 + (l.size + 1) by omega]
      exact this
end Tr
end Go.Proofs.Ytdffgkhlkbaecaa.Tok
