/- What the reference's lists are, where they are sorted: plain mathematics. -/
import Derived.Test.YtdffgkhlkbaecaaStepMath
import Derived.Test.YtdffgkhlkbaecaaSplitMath
namespace Go.Proofs.Ytdffgkhlkbaecaa.Tok
open Go.RowKit Go.Proofs.Ytdffgkhlkbaecaa
open Tr (Sorted CmpOk lows highs)

abbrev EntL := List (ByteArray × Int)
theorem lows_cons_pos {k : ByteArray} {a : ByteArray × Int} {l : EntL} (h : 0 < cmpS k a.1) : lows cmpS k (a :: l) = a :: lows cmpS k l := by unfold lows; rw [List.filter_cons_of_pos (by simpa using h)]
theorem lows_cons_neg {k : ByteArray} {a : ByteArray × Int} {l : EntL} (h : ¬ 0 < cmpS k a.1) : lows cmpS k (a :: l) = lows cmpS k l := by unfold lows; rw [List.filter_cons_of_neg (by simpa using h)]
theorem highs_cons_pos {k : ByteArray} {a : ByteArray × Int} {l : EntL} (h : cmpS k a.1 < 0) : highs cmpS k (a :: l) = a :: highs cmpS k l := by unfold highs; rw [List.filter_cons_of_pos (by simpa using h)]
theorem highs_cons_neg {k : ByteArray} {a : ByteArray × Int} {l : EntL} (h : ¬ cmpS k a.1 < 0) : highs cmpS k (a :: l) = highs cmpS k l := by unfold highs; rw [List.filter_cons_of_neg (by simpa using h)]
theorem apart_parts {k : ByteArray} : ∀ {l : EntL}, Sorted cmpS l → (∀ e ∈ l, cmpS k e.1 ≠ 0) → l = lows cmpS k l ++ highs cmpS k l
  | [], _, _ => rfl
  | a :: l, hs, h => by
    obtain ⟨h1, h2⟩ := List.pairwise_cons.1 hs
    have h0 := h a List.mem_cons_self
    by_cases hp : 0 < cmpS k a.1
    · rw [lows_cons_pos hp, highs_cons_neg (by omega), List.cons_append, ← apart_parts h2 fun e he => h e (List.mem_cons_of_mem _ he)]
    · have hn : cmpS k a.1 < 0 := by omega
      have hall : ∀ e ∈ l, cmpS k e.1 < 0 := fun e he => cmpS_ok.trans hn (h1 e he)
      rw [lows_cons_neg hp, highs_cons_pos hn, show lows cmpS k l = [] from Tr.filter_none fun e he => by have := hall e he; simp; omega, show highs cmpS k l = l from Tr.filter_all fun e he => by simpa using hall e he]
      rfl
/-- A sorted list, around a key. -/
theorem sorted_cases (k : ByteArray) {l : EntL} (hs : Sorted cmpS l) : (l = lows cmpS k l ++ highs cmpS k l ∧ ∀ e ∈ l, cmpS k e.1 ≠ 0) ∨ ∃ v, l = lows cmpS k l ++ (k, v) :: highs cmpS k l := by
  by_cases h : ∃ e ∈ l, cmpS k e.1 = 0
  · obtain ⟨e, he, h0⟩ := h
    have := cmpS_ok.eq.1 h0
    exact .inr ⟨e.2, (ents_around hs (by rw [this]; exact he)).symm⟩
  · exact .inl ⟨apart_parts hs fun e he h0 => h ⟨e, he, h0⟩, fun e he h0 => h ⟨e, he, h0⟩⟩
theorem low_at {k : ByteArray} {l : EntL} (hs : Sorted cmpS l) (i : Nat) (h : i < l.length) : cmpS l[i].1 k < 0 ↔ i < (lows cmpS k l).length := by
  have hl : ∀ m, l = lows cmpS k l ++ m → (∀ e ∈ m, cmpS k e.1 ≤ 0) → (cmpS l[i].1 k < 0 ↔ i < (lows cmpS k l).length) := fun m hm hh => by
    have hi : l[i]? = (lows cmpS k l ++ m)[i]? := by rw [← hm]
    rw [List.getElem?_eq_getElem h] at hi
    constructor
    · intro hc
      rcases Nat.lt_or_ge i (lows cmpS k l).length with h1 | h1
      · exact h1
      · rw [List.getElem?_append_right h1] at hi
        have := hh _ (List.mem_of_getElem? hi.symm)
        have := cmpS_ok.swap.2 hc
        omega
    · intro hc
      rw [List.getElem?_append_left hc] at hi
      exact cmpS_ok.swap.1 (Tr.mem_lows.1 (List.mem_of_getElem? hi.symm)).2
  rcases sorted_cases k hs with ⟨h1, _⟩ | ⟨v, h1⟩
  · exact hl _ h1 fun e he => by have := (Tr.mem_highs.1 he).2; omega
  · exact hl _ h1 fun e he => by
      rcases List.mem_cons.1 he with rfl | he
      · have := cmpS_ok.eq.2 (rfl : k = k); simp only; omega
      · have := (Tr.mem_highs.1 he).2; omega
theorem lows_le (k : ByteArray) (l : EntL) : (lows cmpS k l).length ≤ l.length := List.length_filter_le _ _
theorem highs_le (k : ByteArray) (l : EntL) : (highs cmpS k l).length ≤ l.length := List.length_filter_le _ _
/-- Whether a key is there. -/
def hasK (k : ByteArray) (l : EntL) : Bool := l.any fun e => decide (cmpS k e.1 = 0)
theorem has_no {k : ByteArray} {l : EntL} (h : ∀ e ∈ l, cmpS k e.1 ≠ 0) : hasK k l = false := by
  unfold hasK
  rw [List.any_eq_false]
  intro e he
  simpa using h e he
theorem has_yes {k : ByteArray} {l : EntL} {v : Int} (h : (k, v) ∈ l) : hasK k l = true := by
  unfold hasK
  rw [List.any_eq_true]
  exact ⟨_, h, by simpa using cmpS_ok.eq.2 (rfl : k = k)⟩
/-- The list behind those with lesser keys. -/
theorem sorted_rest (k : ByteArray) {l : EntL} (hs : Sorted cmpS l) :
    (hasK k l = false ∧ l = lows cmpS k l ++ highs cmpS k l ∧ (∀ h : (lows cmpS k l).length < l.length, cmpS k l[(lows cmpS k l).length].1 ≠ 0)) ∨
    (hasK k l = true ∧ ∃ v, l = lows cmpS k l ++ (k, v) :: highs cmpS k l ∧ ∃ h : (lows cmpS k l).length < l.length, l[(lows cmpS k l).length] = (k, v)) := by
  rcases sorted_cases k hs with ⟨h1, h2⟩ | ⟨v, h1⟩
  · exact .inl ⟨has_no h2, h1, fun h => h2 _ (List.getElem_mem h)⟩
  · have hi : l[(lows cmpS k l).length]? = some (k, v) := by
      have : l[(lows cmpS k l).length]? = (lows cmpS k l ++ (k, v) :: highs cmpS k l)[(lows cmpS k l).length]? := by rw [← h1]
      rw [this, List.getElem?_append_right (Nat.le_refl _), Nat.sub_self]
      rfl
    exact .inr ⟨has_yes (List.mem_of_getElem? hi), v, h1, (List.getElem?_eq_some_iff.1 hi)⟩
theorem take_lows (k : ByteArray) {l : EntL} (hs : Sorted cmpS l) : l.take (lows cmpS k l).length = lows cmpS k l := by
  rcases sorted_cases k hs with ⟨h1, _⟩ | ⟨v, h1⟩ <;>
  · generalize lows cmpS k l = a at h1 ⊢
    rw [h1]
    simp
theorem drop_highs (k : ByteArray) {l : EntL} (hs : Sorted cmpS l) : l.drop ((lows cmpS k l).length + if hasK k l then 1 else 0) = highs cmpS k l := by
  rcases sorted_rest k hs with ⟨h0, h1, _⟩ | ⟨h0, v, h1, _⟩ <;> rw [h0]
  · generalize lows cmpS k l = a at h1 ⊢
    generalize highs cmpS k l = b at h1 ⊢
    rw [h1]
    simp
  · generalize lows cmpS k l = a at h1 ⊢
    generalize highs cmpS k l = b at h1 ⊢
    rw [h1, if_pos rfl, ← List.drop_drop]
    simp
theorem lows_has (k : ByteArray) {l : EntL} (hs : Sorted cmpS l) : (lows cmpS k l).length + (if hasK k l then 1 else 0) ≤ l.length := by
  rcases sorted_rest k hs with ⟨h0, h1, _⟩ | ⟨h0, v, h1, h2, _⟩ <;> rw [h0]
  · exact lows_le k l
  · rw [if_pos rfl]; exact h2
/-- A tree and its list say the same. -/
theorem rank_lows (k : ByteArray) : ∀ (t : TrS), Sorted cmpS t.ents → t.rank (cmpS k) = (lows cmpS k t.ents).length
  | .nil, _ => rfl
  | .node nk x l r, hs => by
    obtain ⟨hl, hr, h1, h2⟩ := Tr.sorted_node hs
    show (if 0 < cmpS k nk then l.size + 1 + r.rank (cmpS k) else l.rank (cmpS k)) = (lows cmpS k (l.ents ++ (nk, x) :: r.ents)).length
    rw [Tr.lows_append, rank_lows k l hl, rank_lows k r hr]
    by_cases hp : 0 < cmpS k nk
    · rw [if_pos hp, lows_cons_pos hp, show lows cmpS k l.ents = l.ents from Tr.filter_all fun e he => by
        have := cmpS_ok.swap.2 (cmpS_ok.trans (h1 e he) (cmpS_ok.swap.1 hp)); simpa using this]
      simp only [List.length_append, List.length_cons, Tr.ents_len]
      omega
    · rw [if_neg hp, lows_cons_neg hp, show lows cmpS k r.ents = [] from Tr.filter_none fun e he => by
        have h3 := h2 e he
        rcases Int.lt_trichotomy (cmpS k nk) 0 with g | g | g
        · have := cmpS_ok.trans g h3; simp; omega
        · have := cmpS_ok.eq.1 g; subst this; simp; omega
        · omega]
      simp
theorem get_none {k : ByteArray} : ∀ {t : TrS}, Sorted cmpS t.ents → t.get (cmpS k) = none → ∀ e ∈ t.ents, cmpS k e.1 ≠ 0
  | .nil, _, _, e, he => by simp [Tr.ents] at he
  | .node nk x l r, hs, h, e, he => by
    obtain ⟨hl, hr, h1, h2⟩ := Tr.sorted_node hs
    have h' : (if cmpS k nk = 0 then some x else if cmpS k nk < 0 then l.get (cmpS k) else r.get (cmpS k)) = none := h
    by_cases e0 : cmpS k nk = 0
    · rw [if_pos e0] at h'; cases h'
    · rw [if_neg e0] at h'
      rcases List.mem_append.1 he with hm | hm
      · by_cases e1 : cmpS k nk < 0
        · rw [if_pos e1] at h'
          exact get_none hl h' e hm
        · have := cmpS_ok.swap.2 (cmpS_ok.trans (h1 e hm) (cmpS_ok.swap.1 (by omega : 0 < cmpS k nk)))
          omega
      · rcases List.mem_cons.1 hm with rfl | hm
        · exact e0
        · by_cases e1 : cmpS k nk < 0
          · have := cmpS_ok.trans e1 (h2 e hm); omega
          · rw [if_neg e1] at h'
            exact get_none hr h' e hm
/-- What Get tells. -/
theorem get_cases (k : ByteArray) (t : TrS) (hs : Sorted cmpS t.ents) :
    (t.get (cmpS k) = none ∧ hasK k t.ents = false) ∨ ∃ v, t.get (cmpS k) = some v ∧ hasK k t.ents = true ∧ ∃ h : (lows cmpS k t.ents).length < t.ents.length, t.ents[(lows cmpS k t.ents).length] = (k, v) := by
  cases hg : t.get (cmpS k) with
  | none => exact .inl ⟨rfl, has_no (get_none hs hg)⟩
  | some v =>
    refine .inr ⟨v, rfl, has_yes (get_mem hg), ?_⟩
    have h1 := ents_around hs (get_mem hg)
    have hi : t.ents[(lows cmpS k t.ents).length]? = some (k, v) := by
      have : t.ents[(lows cmpS k t.ents).length]? = (lows cmpS k t.ents ++ (k, v) :: highs cmpS k t.ents)[(lows cmpS k t.ents).length]? := by rw [h1]
      rw [this, List.getElem?_append_right (Nat.le_refl _), Nat.sub_self]
      rfl
    exact List.getElem?_eq_some_iff.1 hi
/-- What a step makes, as lists. -/
def stepE (ts : List TrS) (o : OpT) : EntL :=
  let l := (atT ts o.tree).ents
  if o.kind % 8 < 3 then lows cmpS o.key l ++ (o.key, o.val) :: highs cmpS o.key l
  else if o.kind % 8 = 3 then lows cmpS o.key l ++ highs cmpS o.key l
  else if o.kind % 8 = 4 then lows cmpS o.key l
  else if o.kind % 8 = 5 then highs cmpS o.key l
  else if o.kind % 8 = 6 then (joinT (atT ts o.tree) (atT ts o.other)).1.ents
  else l
theorem stepE_eq (ts : List TrS) (o : OpT) (hs : Sorted cmpS (atT ts o.tree).ents) : (stepV ts o).ents = stepE ts o := by
  obtain ⟨e1, e2⟩ := Tr.ents_split cmpS_ok o.key _ hs
  unfold stepV stepE putV cutV
  simp only
  split
  · rw [Tr.ents_join, e1, e2]
  split
  · rw [Tr.ents_concat, e1, e2]
  split
  · exact e1
  split
  · exact e2
  split <;> rfl
/-- Join, as lists. -/
def joinB (l m : EntL) : Bool := match l.getLast?, m[0]? with
  | some a, some b => decide (0 ≤ cmpS a.1 b.1)
  | _, _ => false
theorem joinE (t u : TrS) : (joinT t u).1.ents = if joinB t.ents u.ents then [] else t.ents ++ u.ents := by
  have hl := nth_last t
  have hf := nth_first u
  unfold joinT joinB
  rw [hl, hf]
  cases h1 : t.ents.getLast? with
  | none => exact Tr.ents_concat _ _
  | some a =>
    cases h2 : u.ents[0]? with
    | none => exact Tr.ents_concat _ _
    | some b =>
      simp only
      by_cases hc : 0 ≤ cmpS a.1 b.1
      · rw [if_pos hc, if_pos (decide_eq_true hc)]; rfl
      · rw [if_neg hc, if_neg (by simpa using hc)]
        exact Tr.ents_concat _ _
def enV (x : ByteArray × Int) : List Value := [.string x.1, .int .i64 x.2]
theorem enV_len (l : List (ByteArray × Int)) : (l.flatMap enV).length = l.length * 2 := by
  induction l with
  | nil => rfl
  | cons x l ih => rw [List.flatMap_cons, List.length_append, ih]; simp [enV]; omega
theorem infoEn : (Try.prog.info? 73).map (fun i => (i.zero, i.size, i.bytes)) = some (some (.agg #[.string ⟨#[]⟩, .int .i64 0]), 2, 24) := by kernel_rfl
theorem en_at (l : List (ByteArray × Int)) (k : Nat) (h : k < l.length) : (l.flatMap enV)[k * 2]? = some (.string l[k].1) ∧ (l.flatMap enV)[k * 2 + 1]? = some (.int .i64 l[k].2) :=
  ⟨(flatN 2 enV (fun _ => rfl) l k 0 h (by omega)).trans rfl, (flatN 2 enV (fun _ => rfl) l k 1 h (by omega)).trans rfl⟩
end Go.Proofs.Ytdffgkhlkbaecaa.Tok
