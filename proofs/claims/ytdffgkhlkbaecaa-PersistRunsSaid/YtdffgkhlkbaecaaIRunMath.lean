/- A tree of ints and a map that say the same: plain mathematics. -/
import Derived.Test.YtdffgkhlkbaecaaITreeOps
import Derived.Test.YtdffgkhlkbaecaaTreeAvl
import Derived.Test.YtdffgkhlkbaecaaTreeOrd
import Derived.Maps.OwnSet
import Derived.Maps.Views
namespace Go.Proofs.Ytdffgkhlkbaecaa.Tok
open Go.RowKit Go.Proofs.Ytdffgkhlkbaecaa Go.Maps
open Tr (Sorted CmpOk lows highs)

abbrev TrI := Tr Int
section
variable {c : Int → Int → Int}
theorem int_apart (ok : CmpOk c) {k : Int} : ∀ {l : List (Int × Int)}, Sorted c l → (∀ e ∈ l, e.1 ≠ k) → l = lows c k l ++ highs c k l
  | [], _, _ => rfl
  | a :: l, hs, h => by
    obtain ⟨h1, h2⟩ := List.pairwise_cons.1 hs
    have h0 := h a List.mem_cons_self
    have h0' : c k a.1 ≠ 0 := fun e => h0 (ok.eq.1 e).symm
    by_cases hp : 0 < c k a.1
    · have e1 : lows c k (a :: l) = a :: lows c k l := by unfold lows; rw [List.filter_cons_of_pos (by simpa using hp)]
      have e2 : highs c k (a :: l) = highs c k l := by unfold highs; rw [List.filter_cons_of_neg (by simp; omega)]
      rw [e1, e2, List.cons_append, ← int_apart ok h2 fun e he => h e (List.mem_cons_of_mem _ he)]
    · have hn : c k a.1 < 0 := by omega
      have hall : ∀ e ∈ a :: l, c k e.1 < 0 := fun e he => by
        rcases List.mem_cons.1 he with rfl | he
        · exact hn
        · exact ok.trans hn (h1 e he)
      rw [show lows c k (a :: l) = [] from Tr.filter_none fun e he => by have := hall e he; simp; omega, show highs c k (a :: l) = a :: l from Tr.filter_all fun e he => by simpa using hall e he]
      rfl
theorem int_around (ok : CmpOk c) {k v : Int} : ∀ {l : List (Int × Int)}, Sorted c l → (k, v) ∈ l → lows c k l ++ (k, v) :: highs c k l = l
  | [], _, h => by simp at h
  | a :: l, hs, h => by
    obtain ⟨h1, h2⟩ := List.pairwise_cons.1 hs
    rcases List.mem_cons.1 h with e | h3
    · subst e
      have e0 : c k k = 0 := ok.eq.2 rfl
      have a1 : lows c k ((k, v) :: l) = [] := by
        refine Tr.filter_none fun e he => ?_
        rcases List.mem_cons.1 he with rfl | he
        · simp [e0]
        · have := h1 e he; simp only [decide_eq_false_iff_not]; simp only at this; omega
      have a2 : highs c k ((k, v) :: l) = l := by
        unfold highs
        rw [List.filter_cons_of_neg (by simp [e0])]
        exact Tr.filter_all fun e he => by have := h1 e he; simpa using this
      rw [a1, a2]
      rfl
    · have h4 := h1 _ h3
      have h5 : 0 < c k a.1 := ok.swap.2 h4
      have ih := int_around ok h2 h3
      have a1 : lows c k (a :: l) = a :: lows c k l := by unfold lows; rw [List.filter_cons_of_pos (by simpa using h5)]
      have a2 : highs c k (a :: l) = highs c k l := by unfold highs; rw [List.filter_cons_of_neg (by simp; omega)]
      rw [a1, a2, List.cons_append, ih]
end
/-- A map that says what a list of entries says. -/
structure MapIs (D : DataW Unit) (l : List (Int × Int)) : Prop where
  tidy : Tidy D
  at' : ∀ x v, (x, v) ∈ l → ∀ z, D.atKey (.int .i64 x) z = .lit (.int .i64 v)
  has' : ∀ x, has D (.int .i64 x) = true ↔ ∃ e ∈ l, e.1 = x
  size' : Maps.size D = l.length
theorem MapIs.none : MapIs (.map []) [] := ⟨tidy_empty, fun x v h => by simp at h, fun x => by simp [has], rfl⟩
theorem MapIs.put {D : DataW Unit} {l : List (Int × Int)} (h : MapIs D l) (hs : Sorted cmpSI l) (n k : Int) : MapIs (D.put (.int .i64 n) (.lit (.int .i64 k))) (lows cmpSI n l ++ (n, k) :: highs cmpSI n l) := by
  have hk : WideAt.IsKeyLit (.int .i64 n) := trivial
  have hm : ∀ e ∈ lows cmpSI n l ++ (n, k) :: highs cmpSI n l, e = (n, k) ∨ (e ∈ l ∧ e.1 ≠ n) := fun e he => by
    rcases List.mem_append.1 he with h1 | h1
    · obtain ⟨a, b⟩ := Tr.mem_lows.1 h1
      exact .inr ⟨a, fun e' => by have := cmpS_okI.eq.2 e'.symm; omega⟩
    · rcases List.mem_cons.1 h1 with h1 | h1
      · exact .inl h1
      · obtain ⟨a, b⟩ := Tr.mem_highs.1 h1
        exact .inr ⟨a, fun e' => by have := cmpS_okI.eq.2 e'.symm; omega⟩
  have hin : ∀ e ∈ l, e.1 ≠ n → e ∈ lows cmpSI n l ++ (n, k) :: highs cmpSI n l := fun e he hne => by
    have h0 : cmpSI n e.1 ≠ 0 := fun e' => hne (cmpS_okI.eq.1 e').symm
    by_cases hp : 0 < cmpSI n e.1
    · exact List.mem_append_left _ (Tr.mem_lows.2 ⟨he, hp⟩)
    · exact List.mem_append_right _ (List.mem_cons_of_mem _ (Tr.mem_highs.2 ⟨he, by omega⟩))
  have hne : ∀ x : Int, x ≠ n → (Lit.int .i64 x) ≠ .int .i64 n := fun x hx e => by injection e with _ e; exact hx e
  refine ⟨h.tidy.put hk _, fun x v hx z => ?_, fun x => ?_, ?_⟩
  · rcases hm _ hx with e | ⟨h1, h2⟩
    · injection e with e1 e2
      subst e1 e2
      exact atKey_put_same h.tidy.isMap hk _ _
    · rw [atKey_put_other (hne x h2)]
      exact h.at' x v h1 z
  · by_cases hx : x = n
    · subst hx
      rw [has_put_same h.tidy.isMap hk]
      exact ⟨fun _ => ⟨(x, k), by simp, rfl⟩, fun _ => rfl⟩
    · rw [has_put_other (hne x hx), h.has' x]
      constructor
      · rintro ⟨e, he, rfl⟩
        exact ⟨e, hin e he hx, rfl⟩
      · rintro ⟨e, he, rfl⟩
        rcases hm e he with e' | ⟨h1, _⟩
        · rw [e'] at hx; exact absurd rfl hx
        · exact ⟨e, h1, rfl⟩
  · rw [size_put h.tidy, h.size']
    by_cases hh : ∃ e ∈ l, e.1 = n
    · rw [if_pos ((h.has' n).2 hh)]
      obtain ⟨e, he, rfl⟩ := hh
      have := congrArg List.length (int_around cmpS_okI hs (k := e.1) (v := e.2) he)
      simp only [List.length_append, List.length_cons] at this ⊢
      omega
    · rw [if_neg (fun e => hh ((h.has' n).1 e))]
      have := congrArg List.length (int_apart cmpS_okI hs (k := n) fun e he e' => hh ⟨e, he, e'⟩)
      simp only [List.length_append, List.length_cons] at this ⊢
      omega
/-- A tree of the numbers so far. -/
structure FineI (k : Nat) (T : TrI) : Prop where
  bd : T.Bd
  srt : Sorted cmpSI T.ents
  le : T.size ≤ k
def putI (T : TrI) (n k : Int) : TrI := Tr.join (Tr.split (cmpSI n) T).1 n k (Tr.split (cmpSI n) T).2
theorem putI_ents (T : TrI) (n k : Int) (hs : Sorted cmpSI T.ents) : (putI T n k).ents = lows cmpSI n T.ents ++ (n, k) :: highs cmpSI n T.ents := by
  obtain ⟨e1, e2⟩ := Tr.ents_split cmpS_okI n T hs
  unfold putI
  rw [Tr.ents_join, e1, e2]
theorem lows_highs_le (n : Int) (l : List (Int × Int)) : (lows cmpSI n l).length + (highs cmpSI n l).length ≤ l.length := by
  induction l with
  | nil => exact Nat.le_refl _
  | cons a l ih =>
    unfold lows highs at ih ⊢
    rw [List.filter_cons, List.filter_cons]
    split <;> split <;> simp_all <;> omega
theorem FineI.none : FineI 0 .nil := ⟨trivial, List.Pairwise.nil, Nat.le_refl _⟩
theorem FineI.put {k : Nat} {T : TrI} (h : FineI k T) (n x : Int) : FineI (k + 1) (putI T n x) := by
  have hb := Tr.bd_split (cmpSI n) T h.bd
  have he := putI_ents T n x h.srt
  refine ⟨Tr.bd_join hb.1 hb.2, by rw [he]; exact Tr.sorted_put cmpS_okI h.srt, ?_⟩
  have h1 := lows_highs_le n T.ents
  have h2 := h.le
  rw [Tr.ents_len] at h1
  rw [← Tr.ents_len, he, List.length_append, List.length_cons]
  omega
theorem FineI.deep {k : Nat} {T : TrI} (h : FineI k T) (hk : k ≤ 2000) : T.height ≤ 40 ∧ 2 ^ T.height ≤ (T.size + 1) * (T.size + 1) := by
  have h1 := h.le
  have h3 := Tr.depth_le T h.bd
  refine ⟨?_, h3⟩
  have h4 : (T.size + 1) * (T.size + 1) ≤ 2001 * 2001 := Nat.mul_le_mul (by omega) (by omega)
  have h5 : 2 ^ T.height < 2 ^ 41 := by omega
  have := (Nat.pow_lt_pow_iff_right (by omega : 1 < 2)).1 h5
  omega
end Go.Proofs.Ytdffgkhlkbaecaa.Tok
