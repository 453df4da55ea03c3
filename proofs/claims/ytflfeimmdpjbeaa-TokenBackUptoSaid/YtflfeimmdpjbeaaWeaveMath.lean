/- Plain facts on weaving gaps and words. -/
import Derived.Test.YtflfeimmdpjbeaaNameWalks
import Derived.Lib.AppendStr
namespace Go.Proofs.Ytflfeimmdpjbeaa.Tok
open Go.RowKit

def gAt (l : List ByteArray) (k : Nat) : ByteArray := l.getD k ByteArray.empty
theorem gAt_get (l : List ByteArray) (k : Nat) (h : k < l.length) : gAt l k = l[k] := by simp [gAt, h]

def wordB (s : ByteArray) : Bool := allB prB s && neB s
theorem wordB_dev (s : ByteArray) : (neB s && allB (onCls qW) s) = wordB s := by
  unfold wordB
  rw [allB_congr onW, Bool.and_comm]
def gapB (gs ws : List ByteArray) (i : Nat) : Bool := allB spB (gAt gs i) && !(decide (0 < i ∧ i < ws.length) && !(neB (gAt gs i)))
def okI (gs ws : List ByteArray) (i : Nat) : Bool := gapB gs ws i && (decide (ws.length ≤ i) || wordB (gAt ws i))
def szTo (gs ws : List ByteArray) : Nat → Nat
  | 0 => 0
  | k + 1 => szTo gs ws k + (gAt gs k).size + (if k < ws.length then (gAt ws k).size else 0)
def wvTo (gs ws : List ByteArray) : Nat → List UInt8
  | 0 => []
  | k + 1 => wvTo gs ws k ++ (gAt gs k).data.toList ++ (if k < ws.length then (gAt ws k).data.toList else [])
def weaveR (gs ws : List ByteArray) : List UInt8 × Nat :=
  if gs.length ≠ ws.length + 1 then ([], 4)
  else if (List.range gs.length).all (okI gs ws) = false then ([], 2)
  else if 40000 < szTo gs ws gs.length then ([], 15)
  else if 8000 < ws.length then ([], 8)
  else (wvTo gs ws gs.length, 0)

theorem wvTo_len (gs ws : List ByteArray) : ∀ k, (wvTo gs ws k).length = szTo gs ws k
  | 0 => rfl
  | k + 1 => by
    unfold wvTo szTo
    rw [List.length_append, List.length_append, wvTo_len gs ws k]
    split <;> simp
theorem szTo_succ (gs ws : List ByteArray) (k : Nat) : szTo gs ws (k + 1) = szTo gs ws k + (gAt gs k).size + (if k < ws.length then (gAt ws k).size else 0) := rfl
theorem wvTo_succ (gs ws : List ByteArray) (k : Nat) : wvTo gs ws (k + 1) = wvTo gs ws k ++ (gAt gs k).data.toList ++ (if k < ws.length then (gAt ws k).data.toList else []) := rfl
theorem szTo_mono (gs ws : List ByteArray) (k : Nat) : szTo gs ws k ≤ szTo gs ws (k + 1) := by
  show _ ≤ szTo gs ws k + _ + _
  omega
theorem szTo_le (gs ws : List ByteArray) (hg : ∀ g ∈ gs, g.size ≤ 3000) (hw : ∀ g ∈ ws, g.size ≤ 3000) : ∀ k, szTo gs ws k ≤ 6000 * k
  | 0 => Nat.le_refl _
  | k + 1 => by
    have ih := szTo_le gs ws hg hw k
    have h1 : (gAt gs k).size ≤ 3000 := by
      by_cases h : k < gs.length
      · rw [gAt_get _ _ h]; exact hg _ (List.getElem_mem h)
      · unfold gAt; rw [List.getD_eq_getElem?_getD, List.getElem?_eq_none (by omega)]; show (0 : Nat) ≤ _; omega
    have h2 : (gAt ws k).size ≤ 3000 := by
      by_cases h : k < ws.length
      · rw [gAt_get _ _ h]; exact hw _ (List.getElem_mem h)
      · unfold gAt; rw [List.getD_eq_getElem?_getD, List.getElem?_eq_none (by omega)]; show (0 : Nat) ≤ _; omega
    unfold szTo
    split <;> omega

theorem weave_len (gs ws : List ByteArray) (h : gs.length ≠ ws.length + 1) : weaveR gs ws = ([], 4) := by unfold weaveR; rw [if_pos h]
theorem weave_bad (gs ws : List ByteArray) (h : gs.length = ws.length + 1) (k : Nat) (hk : k < gs.length) (hb : okI gs ws k = false) : weaveR gs ws = ([], 2) := by
  unfold weaveR
  rw [if_neg (by omega), if_pos]
  rw [List.all_eq_false]
  exact ⟨k, by simpa using hk, by simp [hb]⟩
theorem weave_ok (gs ws : List ByteArray) (h : gs.length = ws.length + 1) (ho : ∀ k, k < gs.length → okI gs ws k = true) :
    weaveR gs ws = if 40000 < szTo gs ws gs.length then ([], 15) else if 8000 < ws.length then ([], 8) else (wvTo gs ws gs.length, 0) := by
  unfold weaveR
  rw [if_neg (by omega), if_neg]
  rw [Bool.not_eq_false, List.all_eq_true]
  exact fun k hk => ho k (by simpa using hk)

/-- The bytes so far, as cells. -/
def bcells (l : List UInt8) : List Value := l.map fun b => Value.int .u8 (b.toNat : Nat)
theorem bcells_len (l : List UInt8) : (bcells l).length = l.length := by simp [bcells]
theorem bcells_str (l : List UInt8) (s : ByteArray) : bcells l ++ Lib.strCells s = bcells (l ++ s.data.toList) := by
  unfold bcells Lib.strCells
  rw [List.map_append]
theorem ret_weave {l l' : List UInt8} {e e' : Nat} (h : (l, e) = (l', e')) : Ending.returned (.tuple #[.string ⟨l.toArray⟩, .int .i64 (e : Nat)]) = .returned (.tuple #[.string ⟨l'.toArray⟩, .int .i64 (e' : Nat)]) := by
  injection h with h1 h2
  rw [h1, h2]

theorem ba_eq {o : ByteArray} {l : List UInt8} (h : o.data.toList = l) : o = ⟨l.toArray⟩ := by
  apply ByteArray.ext
  rw [← h]
theorem ba_append {o s : ByteArray} {l : List UInt8} (h : o.data.toList = l) : (o ++ s).data.toList = l ++ s.data.toList := by
  rw [← h]
  simp
theorem neB_false {s : ByteArray} (h : neB s = false) : s.toList = [] := by
  unfold neB at h
  simpa using h
theorem neB_true {s : ByteArray} (h : neB s = true) : ¬ s.toList = [] := by
  unfold neB at h
  simpa using h
theorem gapB_of (gs ws : List ByteArray) (k : Nat) {g : ByteArray} (hg : gAt gs k = g) (h1 : allB spB g = true) (h2 : neB g = true ∨ k = 0 ∨ ws.length ≤ k) : gapB gs ws k = true := by
  unfold gapB
  rw [hg, h1]
  rcases h2 with h2 | h2 | h2
  · rw [h2]; simp
  · subst h2; simp
  · rw [show decide (0 < k ∧ k < ws.length) = false from by rw [decide_eq_false_iff_not]; omega]; rfl
theorem gapB_no (gs ws : List ByteArray) (k : Nat) {g : ByteArray} (hg : gAt gs k = g) (h : allB spB g = false ∨ (neB g = false ∧ 0 < k ∧ k < ws.length)) : gapB gs ws k = false := by
  unfold gapB
  rw [hg]
  rcases h with h | ⟨h, h1, h2⟩
  · rw [h]; rfl
  · rw [h, show decide (0 < k ∧ k < ws.length) = true from by rw [decide_eq_true_iff]; exact ⟨h1, h2⟩]; simp
theorem okI_gap (gs ws : List ByteArray) (k : Nat) (h : gapB gs ws k = false) : okI gs ws k = false := by unfold okI; rw [h]; rfl
theorem okI_word (gs ws : List ByteArray) (k : Nat) (hk : k < ws.length) (h : wordB (gAt ws k) = false) : okI gs ws k = false := by
  unfold okI; rw [h, show decide (ws.length ≤ k) = false from by rw [decide_eq_false_iff_not]; omega]; simp
theorem okI_yes (gs ws : List ByteArray) (k : Nat) (hg : gapB gs ws k = true) (h : ws.length ≤ k ∨ wordB (gAt ws k) = true) : okI gs ws k = true := by
  unfold okI
  rw [hg]
  rcases h with h | h
  · rw [show decide (ws.length ≤ k) = true from by rw [decide_eq_true_iff]; exact h]; rfl
  · rw [h]; simp
theorem ok_succ {gs ws : List ByteArray} {k : Nat} (h : ∀ j, j < k → okI gs ws j = true) (hk : okI gs ws k = true) : ∀ j, j < k + 1 → okI gs ws j = true := fun j hj => by
  rcases Nat.lt_or_ge j k with h1 | h1
  · exact h j h1
  · obtain rfl : j = k := by omega
    exact hk
end Go.Proofs.Ytflfeimmdpjbeaa.Tok
