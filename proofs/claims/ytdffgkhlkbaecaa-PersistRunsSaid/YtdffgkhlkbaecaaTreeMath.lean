/- Search trees as plain data, what the program makes of them, and where they lie. -/
import Derived.Test.YtdffgkhlkbaecaaMem
import Derived.WalkKit
import Derived.Laws.AppendOwn
namespace Go.Proofs.Ytdffgkhlkbaecaa.Tok
open Go.RowKit

inductive Tr (α : Type) where
  | nil : Tr α
  | node (k : α) (x : Int) (l r : Tr α) : Tr α
namespace Tr
variable {α : Type}
def size : Tr α → Nat
  | nil => 0
  | node _ _ l r => l.size + 1 + r.size
def height : Tr α → Nat
  | nil => 0
  | node _ _ l r => max l.height r.height + 1
def left : Tr α → Tr α
  | nil => nil
  | node _ _ l _ => l
def right : Tr α → Tr α
  | nil => nil
  | node _ _ _ r => r
theorem height_le (t : Tr α) : t.height ≤ t.size := by
  induction t with
  | nil => exact Nat.le_refl _
  | node k x l r ih1 ih2 => show max l.height r.height + 1 ≤ l.size + 1 + r.size; omega

/-- balance. -/
def bal (l : Tr α) (k : α) (x : Int) (r : Tr α) : Tr α :=
  if l.height = r.height + 2 then
    match l with
    | nil => node k x l r
    | node lk lx ll lr =>
      if lr.height ≤ ll.height then node lk lx ll (node k x lr r)
      else match lr with
        | nil => node k x l r
        | node ik ix il ir => node ik ix (node lk lx ll il) (node k x ir r)
  else if r.height = l.height + 2 then
    match r with
    | nil => node k x l r
    | node rk rx rl rr =>
      if rl.height ≤ rr.height then node rk rx (node k x l rl) rr
      else match rl with
        | nil => node k x l r
        | node ik ix il ir => node ik ix (node k x l il) (node rk rx ir rr)
  else node k x l r
/-- join: by steps, of which there are as many as nodes. -/
def joinN : Nat → Tr α → α → Int → Tr α → Tr α
  | 0, l, k, x, r => node k x l r
  | n + 1, l, k, x, r =>
    if r.height + 1 < l.height then match l with
      | nil => node k x l r
      | node lk lx ll lr => bal ll lk lx (joinN n lr k x r)
    else if l.height + 1 < r.height then match r with
      | nil => node k x l r
      | node rk rx rl rr => bal (joinN n l k x rl) rk rx rr
    else node k x l r
def join (l : Tr α) (k : α) (x : Int) (r : Tr α) : Tr α := joinN (l.size + r.size) l k x r
/-- pop of a tree with a root: the first key, its value, the rest. -/
def pop (k : α) (x : Int) : Tr α → Tr α → (α × Int) × Tr α
  | nil, r => ((k, x), r)
  | node lk lx ll lr, r => ((pop lk lx ll lr).1, bal (pop lk lx ll lr).2 k x r)
def concat (l : Tr α) : Tr α → Tr α
  | nil => l
  | node k x rl rr => join l (pop k x rl rr).1.1 (pop k x rl rr).1.2 (pop k x rl rr).2
/-- split, by what a key is compared to. -/
def split (c : α → Int) : Tr α → Tr α × Tr α
  | nil => (nil, nil)
  | node k x l r =>
    if c k < 0 then ((split c l).1, join (split c l).2 k x r)
    else if 0 < c k then (join l k x (split c r).1, (split c r).2)
    else (l, r)

theorem size_bal (l : Tr α) (k : α) (x : Int) (r : Tr α) : (bal l k x r).size = l.size + 1 + r.size := by
  unfold bal
  split
  · split
    · rfl
    · split
      · simp only [size]; omega
      · split
        · rfl
        · simp only [size]; omega
  · split
    · split
      · rfl
      · split
        · simp only [size]; omega
        · split
          · rfl
          · simp only [size]; omega
    · rfl
theorem size_joinN : ∀ (n : Nat) (l : Tr α) (k : α) (x : Int) (r : Tr α), (joinN n l k x r).size = l.size + 1 + r.size
  | 0, _, _, _, _ => rfl
  | n + 1, l, k, x, r => by
    unfold joinN
    split
    · split
      · rfl
      · rw [size_bal, size_joinN n]; simp only [size]; omega
    · split
      · split
        · rfl
        · rw [size_bal, size_joinN n]; simp only [size]; omega
      · rfl
theorem size_join (l : Tr α) (k : α) (x : Int) (r : Tr α) : (join l k x r).size = l.size + 1 + r.size := size_joinN _ _ _ _ _
/-- More steps change nothing. -/
theorem joinN_more : ∀ (n : Nat) (l : Tr α) (k : α) (x : Int) (r : Tr α) (m : Nat), l.size + r.size ≤ n → n ≤ m → joinN m l k x r = joinN n l k x r
  | 0, l, k, x, r, m, h, _ => by
    cases l with
    | node => simp only [size] at h; omega
    | nil =>
      cases r with
      | node => simp only [size] at h; omega
      | nil =>
        cases m with
        | zero => rfl
        | succ m => unfold joinN; rw [if_neg (by simp [height]), if_neg (by simp [height])]
  | n + 1, l, k, x, r, 0, _, hm => by omega
  | n + 1, l, k, x, r, m + 1, h, hm => by
    unfold joinN
    split
    · split
      · rfl
      · rw [joinN_more n _ _ _ _ m (by simp only [size] at h; omega) (by omega)]
    · split
      · split
        · rfl
        · rw [joinN_more n _ _ _ _ m (by simp only [size] at h; omega) (by omega)]
      · rfl
theorem join_left {lk : α} {lx : Int} {ll lr r : Tr α} {k : α} {x : Int} (h : r.height + 1 < (node lk lx ll lr).height) : join (node lk lx ll lr) k x r = bal ll lk lx (join lr k x r) := by
  unfold join
  rw [show (node lk lx ll lr).size + r.size = (ll.size + lr.size + r.size) + 1 by simp only [size]; omega]
  conv => lhs; unfold joinN
  rw [if_pos h]
  show bal ll lk lx (joinN _ lr k x r) = _
  rw [joinN_more (lr.size + r.size) lr k x r _ (Nat.le_refl _) (by omega)]
theorem join_right {rk : α} {rx : Int} {rl rr l : Tr α} {k : α} {x : Int} (h : l.height + 1 < (node rk rx rl rr).height) : join l k x (node rk rx rl rr) = bal (join l k x rl) rk rx rr := by
  unfold join
  rw [show l.size + (node rk rx rl rr).size = (l.size + rl.size + rr.size) + 1 by simp only [size]; omega]
  conv => lhs; unfold joinN
  rw [if_neg (by omega), if_pos h]
  show bal (joinN _ l k x rl) rk rx rr = _
  rw [joinN_more (l.size + rl.size) l k x rl _ (Nat.le_refl _) (by omega)]
theorem join_mid {l r : Tr α} {k : α} {x : Int} (h1 : l.height ≤ r.height + 1) (h2 : r.height ≤ l.height + 1) : join l k x r = node k x l r := by
  unfold join
  generalize l.size + r.size = n
  cases n with
  | zero => rfl
  | succ n => unfold joinN; rw [if_neg (by omega), if_neg (by omega)]
theorem size_pop (k : α) (x : Int) (l r : Tr α) : (pop k x l r).2.size = l.size + r.size := by
  induction l generalizing k x r with
  | nil => simp [pop, size]
  | node lk lx ll lr ih1 ih2 => simp only [pop]; rw [size_bal, ih1]; simp only [size]; omega
theorem size_concat (l r : Tr α) : (concat l r).size = l.size + r.size := by
  cases r with
  | nil => rfl
  | node k x rl rr => simp only [concat]; rw [size_join, size_pop]; simp only [size]; omega
theorem split_lt {c : α → Int} {k : α} {x : Int} {l r : Tr α} (h : c k < 0) : split c (node k x l r) = ((split c l).1, join (split c l).2 k x r) := by rw [split, if_pos h]
theorem split_gt {c : α → Int} {k : α} {x : Int} {l r : Tr α} (h : 0 < c k) : split c (node k x l r) = (join l k x (split c r).1, (split c r).2) := by rw [split, if_neg (by omega), if_pos h]
theorem split_eq {c : α → Int} {k : α} {x : Int} {l r : Tr α} (h : c k = 0) : split c (node k x l r) = (l, r) := by rw [split, if_neg (by omega), if_neg (by omega)]
theorem size_split (c : α → Int) (t : Tr α) : (split c t).1.size + (split c t).2.size ≤ t.size := by
  induction t with
  | nil => exact Nat.le_refl _
  | node k x l r ih1 ih2 =>
    unfold split
    split
    · simp only; rw [size_join]; simp only [size]; omega
    · split
      · simp only; rw [size_join]; simp only [size]; omega
      · simp only [size]; omega
end Tr

/-- A tree in memory, in blocks below B: each node in a block of its own, of the node's type. -/
def IsT {α : Type} (kv : α → Value) (T : TypeId) (w : World) (B : Nat) : Option Addr → Tr α → Prop
  | p, .nil => p = none
  | p, .node k x l r => ∃ (b : Nat) (lp rp : Option Addr), p = some ⟨b, 0, none⟩ ∧ b < B ∧
      w.heap[b]? = some (.cells #[kv k, .int .i64 x, .pointer lp, .pointer rp, .int .i64 ((Tr.node k x l r).size : Nat), .int .i64 ((Tr.node k x l r).height : Nat)] T (0, 0)) ∧ IsT kv T w B lp l ∧ IsT kv T w B rp r
section
variable {α : Type} {kv : α → Value} {T : TypeId} {w w' : World} {B B' : Nat}
theorem IsT.held : ∀ {t : Tr α} {p : Option Addr}, IsT kv T w B p t → (∀ b cs fr, b < B → w.heap[b]? = some (.cells cs T fr) → w'.heap[b]? = w.heap[b]?) → IsT kv T w' B p t
  | .nil, _, h, _ => h
  | .node k x l r, _, h, hk => by
    obtain ⟨b, lp, rp, h0, h1, c, hl, hr⟩ := h
    exact ⟨b, lp, rp, h0, h1, (hk b _ _ h1 c).trans c, hl.held hk, hr.held hk⟩
theorem IsT.keep {t : Tr α} {p : Option Addr} (h : IsT kv T w B p t) (hb : Below B w w') : IsT kv T w' B p t := h.held fun b _ _ hlt _ => hb.block b hlt
theorem IsT.more : ∀ {t : Tr α} {p : Option Addr}, IsT kv T w B p t → B ≤ B' → IsT kv T w B' p t
  | .nil, _, h, _ => h
  | .node k x l r, _, h, hb => by
    obtain ⟨b, lp, rp, h0, h1, c, hl, hr⟩ := h
    exact ⟨b, lp, rp, h0, by omega, c, hl.more hb, hr.more hb⟩
end
/-- In the world as it is. -/
def Is {α : Type} (kv : α → Value) (T : TypeId) (w : World) (p : Option Addr) (t : Tr α) : Prop := IsT kv T w w.heap.size p t
/-- A node's key and value, wherever it stands. -/
def Hd (w : World) (p : Option Addr) (k : Value) (x : Int) : Prop := ∃ b : Nat, p = some ⟨b, 0, none⟩ ∧ b < w.heap.size ∧ w.cell? ⟨b, 0, none⟩ = some k ∧ w.cell? ⟨b, 1, none⟩ = some (.int .i64 x)
section
variable {α : Type} {kv : α → Value} {T : TypeId} {w w' : World}
theorem Is.below {t : Tr α} {p : Option Addr} (h : Is kv T w p t) (hb : Below w.heap.size w w') : Is kv T w' p t := (IsT.keep h hb).more hb.size
/-- What changes one row of another type hides no tree. -/
theorem Is.grown {t : Tr α} {p : Option Addr} {base : Nat} {e : TypeId} {z n : Nat} {v : Value} {xs : List Value} (h : Is kv T w p t) (ho : w.ownsRow base e z v n xs) (he : e ≠ T) (hg : w.grownBy w' v.ownBlock) : Is kv T w' p t := by
  refine (IsT.held h fun b cs fr hlt hc => hg.block b hlt ?_).more hg.size
  rcases ho.2 with ⟨rfl, _⟩ | ⟨g, cap, cur, rfl, _, h1, _⟩
  · intro hx; cases hx
  · intro hx
    injection hx with hx
    subst hx
    rw [show w.heap[(⟨b, 0, none⟩ : Addr).block]? = w.heap[b]? from rfl, hc] at h1
    injection h1 with h1
    injection h1 with _ h1 _
    exact he h1.symm
theorem Is.drew {t : Tr α} {p : Option Addr} (h : Is kv T w p t) : Is kv T w.drew p t := h.below (Below.refl _ _).drew
theorem Is.nil_iff {p : Option Addr} : Is kv T w p .nil ↔ p = none := Iff.rfl
theorem Hd.below {p : Option Addr} {k : Value} {x : Int} (h : Hd w p k x) (hb : Below w.heap.size w w') : Hd w' p k x := by
  obtain ⟨b, h0, h1, c0, c1⟩ := h
  exact ⟨b, h0, Nat.lt_of_lt_of_le h1 hb.size, (hb.cell (p := ⟨b, 0, none⟩) h1).trans c0, (hb.cell (p := ⟨b, 1, none⟩) h1).trans c1⟩
theorem Is.node {k : α} {x : Int} {l r : Tr α} {p : Option Addr} (h : Is kv T w p (.node k x l r)) : ∃ (b : Nat) (lp rp : Option Addr), p = some ⟨b, 0, none⟩ ∧ b < w.heap.size ∧ w.cell? ⟨b, 0, none⟩ = some (kv k) ∧ w.cell? ⟨b, 1, none⟩ = some (.int .i64 x) ∧ w.cell? ⟨b, 2, none⟩ = some (.pointer lp) ∧ w.cell? ⟨b, 3, none⟩ = some (.pointer rp) ∧
      w.cell? ⟨b, 4, none⟩ = some (.int .i64 ((Tr.node k x l r).size : Nat)) ∧ w.cell? ⟨b, 5, none⟩ = some (.int .i64 ((Tr.node k x l r).height : Nat)) ∧ Is kv T w lp l ∧ Is kv T w rp r := by
  obtain ⟨b, lp, rp, h0, h1, c, hl, hr⟩ := h
  have e := fun i => cell_of_row w b i _ _ _ c
  exact ⟨b, lp, rp, h0, h1, (e 0).trans rfl, (e 1).trans rfl, (e 2).trans rfl, (e 3).trans rfl, (e 4).trans rfl, (e 5).trans rfl, hl, hr⟩
theorem Is.hd {k : α} {x : Int} {l r : Tr α} {p : Option Addr} (h : Is kv T w p (.node k x l r)) : Hd w p (kv k) x := by
  obtain ⟨b, lv, rv, h0, h1, c0, c1, _⟩ := h.node
  exact ⟨b, h0, h1, c0, c1⟩
theorem Is.pos {k : α} {x : Int} {l r : Tr α} {b : Nat} (h : Is kv T w (some ⟨b, 0, none⟩) (.node k x l r)) : b < w.heap.size := by
  obtain ⟨b', lp, rp, h0, h1, _⟩ := h
  injection h0 with h0
  injection h0 with h0
  omega
/-- A new node over trees that lie there. -/
theorem Is.made {k : α} {x : Int} {l r : Tr α} {lp rp : Option Addr} (hl : Is kv T w lp l) (hr : Is kv T w rp r) :
    Is kv T (w.alloc (.cells #[kv k, .int .i64 x, .pointer lp, .pointer rp, .int .i64 ((Tr.node k x l r).size : Nat), .int .i64 ((Tr.node k x l r).height : Nat)] T)) (some ⟨w.heap.size, 0, none⟩) (.node k x l r) := by
  have hb : ∀ o, Below w.heap.size w (w.alloc o) := fun o => (Below.refl _ _).alloc (Nat.le_refl _) o
  exact ⟨w.heap.size, lp, rp, rfl, by simp, heap_alloc_new w _, hl.below (hb _), hr.below (hb _)⟩
end
end Go.Proofs.Ytdffgkhlkbaecaa.Tok
