/- What Split, Join, Get and Put do to the entries of a sorted tree: plain mathematics. -/
import Derived.Test.YtdffgkhlkbaecaaStepMath
import Derived.Test.YtdffgkhlkbaecaaTreeJoinT
namespace Go.Proofs.Ytdffgkhlkbaecaa.Tok
open Tr

theorem get_mem {k : ByteArray} {v : Int} : ∀ {t : TrS}, t.get (cmpS k) = some v → (k, v) ∈ t.ents
  | .nil, h => by cases h
  | .node nk x l r, h => by
    have h' : (if cmpS k nk = 0 then some x else if cmpS k nk < 0 then l.get (cmpS k) else r.get (cmpS k)) = some v := h
    show (k, v) ∈ l.ents ++ (nk, x) :: r.ents
    by_cases e : cmpS k nk = 0
    · rw [if_pos e] at h'
      injection h' with h'
      have := cmpS_ok.eq.1 e
      simp [this, h']
    · rw [if_neg e] at h'
      by_cases e2 : cmpS k nk < 0
      · rw [if_pos e2] at h'
        exact List.mem_append_left _ (get_mem h')
      · rw [if_neg e2] at h'
        exact List.mem_append_right _ (List.mem_cons_of_mem _ (get_mem h'))
theorem ents_around {k : ByteArray} {v : Int} : ∀ {l : List (ByteArray × Int)}, Sorted cmpS l → (k, v) ∈ l → lows cmpS k l ++ (k, v) :: highs cmpS k l = l
  | [], _, h => by simp at h
  | a :: l, hs, h => by
    obtain ⟨h1, h2⟩ := List.pairwise_cons.1 hs
    rcases List.mem_cons.1 h with e | h3
    · subst e
      have e0 : cmpS k k = 0 := cmpS_ok.eq.2 rfl
      have a1 : lows cmpS k ((k, v) :: l) = [] := by
        refine filter_none fun e he => ?_
        rcases List.mem_cons.1 he with rfl | he
        · simp [e0]
        · have := h1 e he; simp only [decide_eq_false_iff_not]; simp only at this; omega
      have a2 : highs cmpS k ((k, v) :: l) = l := by
        unfold highs
        rw [List.filter_cons_of_neg (by simp [e0])]
        exact filter_all fun e he => by have := h1 e he; simpa using this
      rw [a1, a2]
      rfl
    · have h4 := h1 _ h3
      have h5 : 0 < cmpS k a.1 := cmpS_ok.swap.2 h4
      have ih := ents_around h2 h3
      have a1 : lows cmpS k (a :: l) = a :: lows cmpS k l := by unfold lows; rw [List.filter_cons_of_pos (by simpa using h5)]
      have a2 : highs cmpS k (a :: l) = highs cmpS k l := by unfold highs; rw [List.filter_cons_of_neg (by simp; omega)]
      rw [a1, a2, List.cons_append, ih]
theorem nth_mem {t : TrS} {i : Int} {a : ByteArray × Int} (h : t.nth i = some a) : a ∈ t.ents := by
  rw [nth_ents] at h
  split at h
  · exact List.mem_of_getElem? h
  · cases h
theorem join_split (k : ByteArray) (t : TrS) (hs : Sorted cmpS t.ents) : joinT (split (cmpS k) t).1 (split (cmpS k) t).2 = (Tr.concat (split (cmpS k) t).1 (split (cmpS k) t).2, true) := by
  obtain ⟨e1, e2⟩ := ents_split cmpS_ok k t hs
  unfold joinT
  split
  · rename_i a b ha hb
    have h1 := nth_mem ha
    have h2 := nth_mem hb
    rw [e1] at h1
    rw [e2] at h2
    have h3 := cmpS_ok.swap.1 (mem_lows.1 h1).2
    have h4 := cmpS_ok.trans h3 (mem_highs.1 h2).2
    rw [if_neg (by omega)]
  · rfl
/-- What is left without a key. -/
def cutE (k : ByteArray) (t : TrS) : List (ByteArray × Int) := lows cmpS k t.ents ++ highs cmpS k t.ents
theorem concat_split (k : ByteArray) (t : TrS) (hs : Sorted cmpS t.ents) : (Tr.concat (split (cmpS k) t).1 (split (cmpS k) t).2).ents = cutE k t := by
  obtain ⟨e1, e2⟩ := ents_split cmpS_ok k t hs
  rw [ents_concat, e1, e2]
  rfl
theorem put_back (k : ByteArray) (v : Int) (t u : TrS) (hs : Sorted cmpS t.ents) (hu : u.ents = cutE k t) (hg : t.get (cmpS k) = some v) : (Tr.join (split (cmpS k) u).1 k v (split (cmpS k) u).2).ents = t.ents := by
  have hus : Sorted cmpS u.ents := by rw [hu]; exact sorted_cut cmpS_ok hs
  obtain ⟨e1, e2⟩ := ents_split cmpS_ok k u hus
  rw [ents_join, e1, e2, hu]
  unfold cutE
  have a1 : lows cmpS k (lows cmpS k t.ents) = lows cmpS k t.ents := filter_all fun e he => by simpa using (mem_lows.1 he).2
  have a2 : lows cmpS k (highs cmpS k t.ents) = [] := filter_none fun e he => by have := (mem_highs.1 he).2; simp only [decide_eq_false_iff_not]; omega
  have a3 : highs cmpS k (lows cmpS k t.ents) = [] := filter_none fun e he => by have := (mem_lows.1 he).2; simp only [decide_eq_false_iff_not]; omega
  have a4 : highs cmpS k (highs cmpS k t.ents) = highs cmpS k t.ents := filter_all fun e he => by simpa using (mem_highs.1 he).2
  rw [lows_append, highs_append, a1, a2, a3, a4, List.append_nil, List.nil_append]
  exact ents_around hs (get_mem hg)
end Go.Proofs.Ytdffgkhlkbaecaa.Tok
