/- Whether a label is that of a mandatory hypothesis: the program's test. -/
import Derived.Test.YtjdomdeejibnmaaIndex
import Derived.Test.YtjdomdeejibnmaaBoolIs
namespace Go.Proofs.Ytjdomdeejibnmaa.Tok
open Go.RowKit Go.Proofs.Ytjdomdeejibnmaa

/-- A hypothesis: its label, whether it floats, its formula; its three cells. -/
abbrev HypT := ByteArray × Bool × Option Addr × Nat × Nat
def hypV (h : HypT) : List Value := [.string h.1, .bool h.2.1, .slice h.2.2.1 h.2.2.2.1 h.2.2.2.2]
theorem flat3' {α : Type} (f : α → List Value) (hf : ∀ x, (f x).length = 3) : ∀ (l : List α) (k i : Nat) (h : k < l.length), i < 3 → (l.flatMap f)[k * 3 + i]? = (f l[k])[i]?
  | [], _, _, h, _ => by simp at h
  | x :: l, 0, i, _, hi => by
    rw [List.flatMap_cons, List.getElem?_append_left (by rw [hf]; omega)]
    simp
  | x :: l, k + 1, i, h, hi => by
    have hx := hf x
    rw [List.flatMap_cons, List.getElem?_append_right (by omega), hx, show (k + 1) * 3 + i - 3 = k * 3 + i by omega, flat3' f hf l k i (by simpa using h) hi]
    simp
theorem flat3_len' {α : Type} (f : α → List Value) (hf : ∀ x, (f x).length = 3) (l : List α) : (l.flatMap f).length = l.length * 3 := by
  induction l with
  | nil => rfl
  | cons x l ih => rw [List.flatMap_cons, List.length_append, hf, ih, List.length_cons]; omega

def FoundAt (hs : List HypT) (ss : List ByteArray) (e : Ending) : Prop := (∃ k : Nat, e = .returned (.int .i64 k) ∧ ∃ h ∈ hs, h.1 ∈ ss) ∨ (e = .returned (.int .i64 (-1)) ∧ ∀ h ∈ hs, h.1 ∉ ss)

def Mand (hs : List HypT) (ss : List ByteArray) : Prop := ∃ h ∈ hs, h.1 ∈ ss
end Go.Proofs.Ytjdomdeejibnmaa.Tok
