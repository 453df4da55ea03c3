/- The sets beside the reference's lists of least elements: plain mathematics, and lists that are only read. -/
import Derived.Test.YtdffgkhlkbaecaaUnionP
namespace Go.Proofs.Ytdffgkhlkbaecaa.Tok
open Go.RowKit Go.Proofs.Ytdffgkhlkbaecaa

/-- The least elements of the sets of all numbers. -/
def leas (E : List El) (n : Nat) : List Nat := (List.range n).map (lea E)
theorem leas_len (E : List El) (n : Nat) : (leas E n).length = n := by simp [leas]
theorem leas_get (E : List El) (n : Nat) {a : Nat} (h : a < n) : (leas E n)[a]? = some (lea E a) := by simp [leas, h]
/-- How the elements came to be, and what the least elements were ahead of each union. -/
inductive Both (n : Nat) : List El → List (Nat × Nat) → List (List Nat) → Prop
  | start : Both n (ones n) [] []
  | link {E : List El} {U : List (Nat × Nat)} {hs : List (List Nat)} {a b : Nat} (h : Both n E U hs) (ha : a < n) (hb : b < n) (hr : root E a ≠ root E b) : Both n (uniP E a b) (uniU E U a b) (hs ++ [leas E n])
theorem Both.past {n : Nat} {E : List El} {U : List (Nat × Nat)} {hs : List (List Nat)} (hn : n ≤ 10000) (h : Both n E U hs) : Past n E U := by
  induction h with
  | start => exact Past.start
  | link h ha hb hr ih => exact ih.uniP hn ha hb
theorem Both.len {n : Nat} {E : List El} {U : List (Nat × Nat)} {hs : List (List Nat)} (h : Both n E U hs) : U.length = hs.length := by
  induction h with
  | start => rfl
  | link h ha hb hr ih => rw [uniU_len, if_neg hr, ih]; simp
theorem Both.lens {n : Nat} {E : List El} {U : List (Nat × Nat)} {hs : List (List Nat)} (h : Both n E U hs) : ∀ l ∈ hs, l.length = n := by
  induction h with
  | start => intro l hl; simp at hl
  | link h ha hb hr ih =>
    intro l hl
    rcases List.mem_append.1 hl with h1 | h1
    · exact ih l h1
    · simp at h1; rw [h1, leas_len]
theorem Both.back {n : Nat} {E : List El} {U : List (Nat × Nat)} {hs : List (List Nat)} (hn : n ≤ 10000) (h : Both n E U hs) : ∀ k, k ≤ hs.length → ∃ E0 U0, Both n E0 U0 (hs.take k) ∧ Chain E0 U0 E U ∧ U0.length = k ∧ (k < hs.length → hs[k]? = some (leas E0 n)) ∧ (k = hs.length → E0 = E) := by
  induction h with
  | start => intro k hk; simp at hk; subst hk; exact ⟨_, _, Both.start, Chain.here, rfl, fun h => by simp at h, fun _ => rfl⟩
  | @link E U hs a b h ha hb hr ih =>
    intro k hk
    have hl := h.len
    rw [List.length_append] at hk
    simp at hk
    rcases Nat.lt_or_ge hs.length k with h1 | h1
    · have e : k = hs.length + 1 := by omega
      subst e
      refine ⟨_, _, ?_, Chain.here, by rw [uniU_len, if_neg hr, hl], fun h => by simp at h, fun _ => rfl⟩
      rw [List.take_of_length_le (by simp)]
      exact Both.link h ha hb hr
    · obtain ⟨E0, U0, b1, b2, b3, b4, b5⟩ := ih k h1
      refine ⟨E0, U0, ?_, Chain.uniP hn (h.past hn) b2 ha hb, b3, fun _ => ?_, fun e => by simp at e; omega⟩
      · rw [List.take_append_of_le_length h1]; exact b1
      · rcases Nat.lt_or_ge k hs.length with h2 | h2
        · rw [List.getElem?_append_left h2]; exact b4 h2
        · have e : k = hs.length := by omega
          rw [b5 e, e, List.getElem?_append_right (Nat.le_refl _), Nat.sub_self]
          rfl
/-- The reference's classes. -/
def rcls (f : Nat → Nat) (n k : Nat) : List (List Nat) := ((List.range k).filter fun i => f i == i).map fun i => (List.range' i (n - i)).filter fun b => f b == i
theorem firsts_lea {E : List El} (ok : Ok E) (lw : Low E) : ∀ k, k ≤ E.length → firsts (root E) k = ((List.range k).filter fun i => lea E i == i).map (root E)
  | 0, _ => rfl
  | k + 1, h => by
    have ih := firsts_lea ok lw k (by omega)
    have hk : k < E.length := by omega
    obtain ⟨k1, k2⟩ := root_ok ok hk
    obtain ⟨m1, m2⟩ := lw.mem _ k1 k2
    have hmin := lw.min k hk
    show (if root E k ∈ firsts (root E) k then firsts (root E) k else firsts (root E) k ++ [root E k]) = _
    rw [List.range_succ, List.filter_append, List.map_append, ← ih]
    by_cases e : lea E k = k
    · have hno : root E k ∉ firsts (root E) k := by
        intro hm
        obtain ⟨b, hb, hr⟩ := (mem_firsts k (root E k)).1 hm
        have h1 := lw.min b (by omega)
        have h2 : lea E b = lea E k := by unfold lea; rw [hr]
        unfold lea at h2 e
        omega
      rw [if_neg hno]
      simp [e]
    · have hlt : lea E k < k := by unfold lea at e ⊢; omega
      have hyes : root E k ∈ firsts (root E) k := (mem_firsts k (root E k)).2 ⟨lea E k, hlt, m2⟩
      rw [if_pos hyes]
      simp [e]
theorem cls_rcls {E : List El} (ok : Ok E) (lw : Low E) {n : Nat} (hn : E.length = n) : cls (root E) n = rcls (lea E) n n := by
  unfold cls rcls
  rw [firsts_lea ok lw n (by omega), List.map_map]
  apply List.map_congr_left
  intro i hi
  obtain ⟨hi1, hi2⟩ := List.mem_filter.1 hi
  have hin : i < n := by simpa using hi1
  have hii : lea E i = i := by simpa using hi2
  show clsOf (root E) n (root E i) = _
  unfold clsOf
  have e : List.range n = List.range i ++ List.range' i (n - i) := by
    rw [List.range_eq_range', List.range_eq_range']
    have := List.range'_append (s := 0) (m := i) (n := n - i) (step := 1)
    simp only [Nat.one_mul, Nat.zero_add] at this
    rw [this]
    congr 1
    omega
  rw [e, List.filter_append]
  have h0 : (List.range i).filter (fun b => root E b == root E i) = [] := by
    rw [List.filter_eq_nil_iff]
    intro b hb
    simp only [beq_iff_eq]
    intro hr
    have hb' : b < i := by simpa using hb
    have h1 := lw.min b (by omega)
    have h2 : lea E b = lea E i := by unfold lea; rw [hr]
    rw [hii] at h2
    unfold lea at h2
    omega
  rw [h0, List.nil_append]
  apply List.filter_congr
  intro b hb
  have hb' : b < n := by
    have := (List.mem_range'_1.1 hb).2
    omega
  rw [Bool.eq_iff_iff, beq_iff_eq, beq_iff_eq, ← lea_inj ok lw (by omega) (by omega), hii]

/-- A row that is only read, of some type. -/
def RdT (w : World) (T : TypeId) (A : Option Addr) (n : Nat) (xs : List Value) : Prop :=
  xs.length = n ∧ (0 < n → ∃ (b off : Nat) (cs : Array Value) (fr : Nat × Nat), A = some ⟨b, off, none⟩ ∧ w.heap[b]? = some (.cells cs T fr) ∧ ∀ j u, xs[j]? = some u → cs[off + j]? = some u)
section
variable {w w1 : World} {T : TypeId} {A : Option Addr} {n : Nat} {xs : List Value}
theorem RdT.rd (h : RdT w T A n xs) : Rd w w.heap.size 1 A n xs := by
  refine ⟨by rw [h.1]; omega, fun hn => ?_⟩
  obtain ⟨b, off, cs, fr, e, hh, hc⟩ := h.2 hn
  exact ⟨b, off, e, (Array.getElem?_eq_some_iff.1 hh).1, fun j u hu => by rw [cell_of_row _ _ _ _ _ _ hh]; exact hc j u hu⟩
theorem RdT.below (h : RdT w T A n xs) (hb : Below w.heap.size w w1) : RdT w1 T A n xs := by
  refine ⟨h.1, fun hn => ?_⟩
  obtain ⟨b, off, cs, fr, e, hh, hc⟩ := h.2 hn
  exact ⟨b, off, cs, fr, e, (hb.block b (Array.getElem?_eq_some_iff.1 hh).1).trans hh, hc⟩
theorem RdT.bk {base : Nat} (h : RdT w T A n xs) (hb : BK base w w1) (hT : KT T = true) : RdT w1 T A n xs := by
  refine ⟨h.1, fun hn => ?_⟩
  obtain ⟨b, off, cs, fr, e, hh, hc⟩ := h.2 hn
  exact ⟨b, off, cs, fr, e, hb.keeps _ _ _ _ hh hT, hc⟩
theorem RdT.own {base c : Nat} (h : w.ownsRow base T 1 (.slice A n c) n xs) : RdT w T A n xs := by
  refine ⟨by have := h.1; omega, fun hn => ?_⟩
  rcases h.2 with ⟨_, h2⟩ | ⟨g, cap, cur, hv, hb, hh, hnc, hcm, hcs, hx⟩
  · omega
  · injection hv with hv
    refine ⟨g, 0, cur, (0, 0), hv, hh, fun j u hu => ?_⟩
    rw [← hx, List.getElem?_take] at hu
    split at hu
    · simpa using hu
    · cases hu
theorem RdT.take (h : RdT w T A n xs) {m : Nat} (hm : m ≤ n) : RdT w T A m (xs.take m) := by
  refine ⟨by rw [List.length_take, h.1]; omega, fun h0 => ?_⟩
  obtain ⟨b, off, cs, fr, e, hh, hc⟩ := h.2 (by omega)
  refine ⟨b, off, cs, fr, e, hh, fun j u hu => hc j u ?_⟩
  rw [List.getElem?_take] at hu
  split at hu
  · exact hu
  · cases hu
end
/-- The reference's sets: two slices that are only read. -/
structure RS (w : World) (A1 : Option Addr) (n : Nat) (A2 : Option Addr) (p c2 : Nat) (cur : List Nat) (hs : List (List Nat)) : Prop where
  cur : RdT w 3 A1 n (nats cur)
  past : ∃ vs, RdT w 36 A2 p vs ∧ hs.length = p ∧ ∀ (i : Nat) (v : Value) (l : List Nat), vs[i]? = some v → hs[i]? = some l → ∃ A c, v = .slice A l.length c ∧ RdT w 3 A l.length (nats l)
  cap : p ≤ c2
theorem RS.below {w w1 : World} {A1 A2 : Option Addr} {n p c2 : Nat} {cur : List Nat} {hs : List (List Nat)} (h : RS w A1 n A2 p c2 cur hs) (hb : Below w.heap.size w w1) : RS w1 A1 n A2 p c2 cur hs :=
  ⟨h.cur.below hb, by
    obtain ⟨vs, h1, h2, h3⟩ := h.past
    exact ⟨vs, h1.below hb, h2, fun i v l a b => by obtain ⟨A, c, e, k⟩ := h3 i v l a b; exact ⟨A, c, e, k.below hb⟩⟩, h.cap⟩
theorem RS.bk {base : Nat} {w w1 : World} {A1 A2 : Option Addr} {n p c2 : Nat} {cur : List Nat} {hs : List (List Nat)} (h : RS w A1 n A2 p c2 cur hs) (hb : BK base w w1) : RS w1 A1 n A2 p c2 cur hs :=
  ⟨h.cur.bk hb (by decide), by
    obtain ⟨vs, h1, h2, h3⟩ := h.past
    exact ⟨vs, h1.bk hb (by decide), h2, fun i v l a b => by obtain ⟨A, c, e, k⟩ := h3 i v l a b; exact ⟨A, c, e, k.bk hb (by decide)⟩⟩, h.cap⟩
end Go.Proofs.Ytdffgkhlkbaecaa.Tok
