/- A map from texts to bool that the call makes: the look-up of a bool, and what a set of texts answers. No program. -/
import Derived.Maps.OwnOps
import Derived.Maps.Views
import Derived.Lib.Hide
namespace Go.Proofs.Ytjdomdeejibnmaa.Tok
open Go.RowKit Go.Maps

section
variable {H : Type} {P : Program} {w : World} {k e : TypeId} {b n : Nat} {D : DataW H}
theorem plainElem_bool_inv (he : P.underlying e = some .bool) {v : Value} {z : DataW H × List MemPlace} (h : plainElem P e v = some z) : ∃ a, v = .bool a ∧ z = (.lit (.bool a), []) := by
  unfold plainElem at h
  rw [he] at h
  cases v <;> simp at h
  subst h
  exact ⟨_, rfl, rfl⟩
theorem lookup_bool {t : TypeId} (h : w.ownsMap P k (plainElem P e) b n D) (K : Keyed P k) (ht : P.underlying t = some (.map k e)) (he : P.underlying e = some .bool) (hz : (zeroValue e).run P w = .ok (.bool false) w)
    {key : Value} {kl : Lit} (hkey : keyOf P k key = some kl) : ∃ c, (Instr.lookup t (.map (some b)) key false).run P w = .ok (.bool c) w ∧ D.atKey kl (.lit (.bool false)) = .lit (.bool c) := by
  obtain ⟨v, ps, hrun, hv⟩ := h.lookup K ht hz (plainElem_bool he false) hkey
  obtain ⟨c, rfl, hc⟩ := plainElem_bool_inv he hv
  simp only [Prod.mk.injEq] at hc
  exact ⟨c, hrun, hc.1⟩
theorem wpList_lookup_bool {ops : Array Oper} {rest : List Oper} {o : Oper} {a : Act} {Q : Exit → Act → World → Prop}
    (hw : Region.wanted o (yielded ops a.tmps) = true) (m x : Operand) (t : TypeId) (hop : o.op = Op.lookup t m x false)
    (K : Keyed P k) (ht : P.underlying t = some (.map k e)) (he : P.underlying e = some .bool) (hz : (zeroValue e).run P w = .ok (.bool false) w)
    (hm : a.eval m = .map (some b)) (hown : w.ownsMap P k (plainElem P e) b n D) (key : Value) (kl : Lit) (hx : a.eval x = key) (hkey : keyOf P k key = some kl) (c : Bool) (hc : D.atKey kl (.lit (.bool false)) = .lit (.bool c))
    (hK : wpList P ops Q rest (a.put o.dst (.bool c)) w) : wpList P ops Q (o :: rest) a w := by
  refine wpList_step fun K' hK' => ?_
  rw [if_pos hw]
  obtain ⟨c', hrun, hat⟩ := lookup_bool hown K ht he hz hkey
  rw [hc] at hat
  injection hat with hat
  injection hat with hat
  subst hat
  unfold Oper.wp
  simp [execOp, hop, hm, hx, hrun, Result.andThen]
  exact hK' _ _ hK
end

/-- The set of some texts, as a map's datum. -/
def bsetD (ks : List ByteArray) : DataW Unit := ks.foldl (fun m s => m.put (.string s.data.toList) (.lit (.bool true))) (.map [])
theorem bsetD_snoc (ks : List ByteArray) (s : ByteArray) : bsetD (ks ++ [s]) = (bsetD ks).put (.string s.data.toList) (.lit (.bool true)) := by
  unfold bsetD
  rw [List.foldl_append]
  rfl
open Classical in
theorem bset_from (s : ByteArray) : ∀ (ks : List ByteArray) (m : DataW Unit), IsMap m →
    (ks.foldl (fun m s => m.put (.string s.data.toList) (.lit (.bool true))) m).atKey (.string s.data.toList) (.lit (.bool false)) = if s ∈ ks then .lit (.bool true) else m.atKey (.string s.data.toList) (.lit (.bool false))
  | [], m, _ => by simp
  | t :: r, m, hm => by
    rw [List.foldl_cons, bset_from s r _ (hm.put _ _)]
    by_cases h1 : s ∈ r
    · rw [if_pos h1, if_pos (List.mem_cons_of_mem _ h1)]
    · rw [if_neg h1]
      by_cases h2 : s = t
      · subst h2
        rw [if_pos (List.mem_cons_self ..), atKey_put_same hm (by trivial)]
      · rw [if_neg (by simp [h1, h2]), atKey_put_other]
        intro he
        injection he with he
        exact h2 (ByteArray.ext (Array.toList_inj.1 he))
open Classical in
theorem bset_at (ks : List ByteArray) (s : ByteArray) : (bsetD ks).atKey (.string s.data.toList) (.lit (.bool false)) = .lit (.bool (decide (s ∈ ks))) := by
  unfold bsetD
  rw [bset_from s ks _ isMap_empty]
  by_cases h : s ∈ ks
  · rw [if_pos h, decide_eq_true h]
  · rw [if_neg h, decide_eq_false h]
    rfl
end Go.Proofs.Ytjdomdeejibnmaa.Tok
