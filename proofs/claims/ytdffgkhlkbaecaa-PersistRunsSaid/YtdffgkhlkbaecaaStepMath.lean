/- What a step keeps: balance, order, keys. -/
import Derived.Test.YtdffgkhlkbaecaaStep
namespace Go.Proofs.Ytdffgkhlkbaecaa.Tok
open Go.RowKit Go.Proofs.Ytdffgkhlkbaecaa
open Tr (Sorted CmpOk)

section
variable {α : Type} {c : α → α → Int}
theorem sorted_last (l : List (α × Int)) (h : Sorted c l) (a : α × Int) (ha : l.getLast? = some a) (x : α × Int) (hx : x ∈ l) : x = a ∨ c x.1 a.1 < 0 := by
  obtain ⟨l', rfl⟩ : ∃ l', l = l' ++ [a] := by
    rcases List.getLast?_eq_some_iff.1 ha with ⟨l', e⟩
    exact ⟨l', e⟩
  unfold Sorted at h
  rw [List.pairwise_append] at h
  rcases List.mem_append.1 hx with h1 | h1
  · exact .inr (h.2.2 x h1 a (by simp))
  · simp at h1; exact .inl h1
theorem sorted_head (l : List (α × Int)) (h : Sorted c l) (a : α × Int) (ha : l[0]? = some a) (x : α × Int) (hx : x ∈ l) : x = a ∨ c a.1 x.1 < 0 := by
  cases l with
  | nil => simp at ha
  | cons b l =>
    simp at ha
    subst ha
    unfold Sorted at h
    rw [List.pairwise_cons] at h
    rcases List.mem_cons.1 hx with h1 | h1
    · exact .inl h1
    · exact .inr (h.1 x h1)
theorem nth_last (t : Tr α) : t.nth ((t.size : Int) - 1) = t.ents.getLast? := by
  rw [Tr.nth_ents, List.getLast?_eq_getElem?, Tr.ents_len]
  by_cases h : 0 < t.size
  · rw [if_pos (by omega), show ((t.size : Int) - 1).toNat = t.size - 1 by omega]
  · rw [if_neg (by omega)]
    have : t.ents = [] := List.length_eq_zero_iff.1 (by rw [Tr.ents_len]; omega)
    rw [this]
    rfl
theorem nth_first (t : Tr α) : t.nth 0 = t.ents[0]? := by rw [Tr.nth_ents, if_pos (by omega)]; rfl
end
theorem joinT_ents (t u : TrS) : (joinT t u).1.ents = [] ∨ (joinT t u).1.ents = t.ents ++ u.ents := by
  unfold joinT
  split
  · split
    · exact .inl rfl
    · exact .inr (Tr.ents_concat _ _)
  · exact .inr (Tr.ents_concat _ _)
theorem joinT_sorted (t u : TrS) (ht : Sorted cmpS t.ents) (hu : Sorted cmpS u.ents) : Sorted cmpS (joinT t u).1.ents := by
  have hl := nth_last t
  have hf := nth_first u
  unfold joinT
  generalize t.nth ((t.size : Int) - 1) = x at hl
  generalize u.nth 0 = y at hf
  split
  · rename_i a b
    split
    · exact List.Pairwise.nil
    · rename_i hlt
      show Sorted cmpS (Tr.concat t u).ents
      rw [Tr.ents_concat]
      unfold Sorted
      rw [List.pairwise_append]
      refine ⟨ht, hu, fun p hp q hq => ?_⟩
      have hab : cmpS a.1 b.1 < 0 := by omega
      rcases sorted_last _ ht a hl.symm p hp with rfl | h1
      · rcases sorted_head _ hu b hf.symm q hq with rfl | h2
        · exact hab
        · exact cmpS_ok.trans hab h2
      · rcases sorted_head _ hu b hf.symm q hq with rfl | h2
        · exact cmpS_ok.trans h1 hab
        · exact cmpS_ok.trans (cmpS_ok.trans h1 hab) h2
  · rename_i hno
    show Sorted cmpS (Tr.concat t u).ents
    rw [Tr.ents_concat]
    cases x with
    | none =>
      rw [List.getLast?_eq_none_iff.1 hl.symm]
      exact hu
    | some a =>
      cases y with
      | none =>
        have : u.ents = [] := by
          cases hx : u.ents with
          | nil => rfl
          | cons z l => rw [hx] at hf; simp at hf
        rw [this, List.append_nil]
        exact ht
      | some b => exact absurd rfl (hno a b rfl)
/-- A tree of the steps so far. -/
structure Fine (ks : List ByteArray) (t : TrS) : Prop where
  bd : t.Bd
  srt : Sorted cmpS t.ents
  keys : ∀ e ∈ t.ents, e.1 ∈ ks
theorem Fine.nil (ks : List ByteArray) : Fine ks .nil := ⟨trivial, List.Pairwise.nil, by intro e he; simp [Tr.ents] at he⟩
theorem Fine.le {ks : List ByteArray} {t : TrS} (h : Fine ks t) : t.size ≤ ks.length := by rw [← Tr.ents_len]; exact Tr.sorted_le cmpS_ok h.srt h.keys
theorem Fine.more {ks : List ByteArray} {t : TrS} (h : Fine ks t) (k : ByteArray) : Fine (ks ++ [k]) t := ⟨h.bd, h.srt, fun e he => List.mem_append_left _ (h.keys e he)⟩
theorem bd_joinT {t u : TrS} (ht : t.Bd) (hu : u.Bd) : (joinT t u).1.Bd := by
  unfold joinT
  split
  · split
    · trivial
    · exact Tr.bd_concat ht hu
  · exact Tr.bd_concat ht hu
theorem fine_step {ks : List ByteArray} {ts : List TrS} (h : ∀ t ∈ ts, Fine ks t) (o : OpT) : Fine (ks ++ [o.key]) (stepV ts o) := by
  have hat : ∀ i, Fine ks (atT ts i) := fun i => by
    unfold atT
    cases hx : ts[i % ts.length]? with
    | none => exact Fine.nil _
    | some t => exact h t (List.mem_of_getElem? hx)
  have ht := hat o.tree
  have hu := hat o.other
  unfold stepV
  simp only
  generalize atT ts o.tree = t at ht
  generalize atT ts o.other = u at hu
  have hs := Tr.ents_split cmpS_ok o.key t ht.srt
  have hb := Tr.bd_split (cmpS o.key) t ht.bd
  have hlow : ∀ e ∈ Tr.lows cmpS o.key t.ents, e.1 ∈ ks ++ [o.key] := fun e he => List.mem_append_left _ (ht.keys e (Tr.mem_lows.1 he).1)
  have hhigh : ∀ e ∈ Tr.highs cmpS o.key t.ents, e.1 ∈ ks ++ [o.key] := fun e he => List.mem_append_left _ (ht.keys e (Tr.mem_highs.1 he).1)
  split
  · unfold putV
    refine ⟨Tr.bd_join hb.1 hb.2, ?_, ?_⟩
    · rw [Tr.ents_join, hs.1, hs.2]; exact Tr.sorted_put cmpS_ok ht.srt
    · rw [Tr.ents_join, hs.1, hs.2]
      intro e he
      rcases List.mem_append.1 he with h1 | h1
      · exact hlow e h1
      · rcases List.mem_cons.1 h1 with rfl | h1
        · simp
        · exact hhigh e h1
  split
  · unfold cutV
    refine ⟨Tr.bd_concat hb.1 hb.2, ?_, ?_⟩
    · rw [Tr.ents_concat, hs.1, hs.2]; exact Tr.sorted_cut cmpS_ok ht.srt
    · rw [Tr.ents_concat, hs.1, hs.2]
      intro e he
      rcases List.mem_append.1 he with h1 | h1
      · exact hlow e h1
      · exact hhigh e h1
  split
  · exact ⟨hb.1, by rw [hs.1]; exact Tr.sorted_lows ht.srt, by rw [hs.1]; exact hlow⟩
  split
  · exact ⟨hb.2, by rw [hs.2]; exact Tr.sorted_highs ht.srt, by rw [hs.2]; exact hhigh⟩
  split
  · refine ⟨bd_joinT ht.bd hu.bd, joinT_sorted t u ht.srt hu.srt, ?_⟩
    rcases joinT_ents t u with e | e <;> rw [e]
    · intro e he; simp at he
    · intro e he
      rcases List.mem_append.1 he with h1 | h1
      · exact List.mem_append_left _ (ht.keys e h1)
      · exact List.mem_append_left _ (hu.keys e h1)
  · exact ht.more _
/-- What the law asks of a tree's depth and size. -/
theorem Fine.deep {ks : List ByteArray} {t : TrS} (h : Fine ks t) (hk : ks.length ≤ 120) : t.height ≤ 13 ∧ t.size < 2 ^ t.height ∧ 2 ^ t.height ≤ (t.size + 1) * (t.size + 1) ∧ (t.height = 0 ↔ t.size = 0) := by
  have h1 := h.le
  have h2 := Tr.size_lt t
  have h3 := Tr.depth_le t h.bd
  refine ⟨?_, by omega, h3, ?_⟩
  · have h4 : (t.size + 1) * (t.size + 1) ≤ 121 * 121 := Nat.mul_le_mul (by omega) (by omega)
    have h5 : 2 ^ t.height < 2 ^ 14 := by omega
    have := (Nat.pow_lt_pow_iff_right (by omega : 1 < 2)).1 h5
    omega
  · cases t with
    | nil => simp [Tr.height, Tr.size]
    | node k x l r => simp [Tr.height, Tr.size]
end Go.Proofs.Ytdffgkhlkbaecaa.Tok
