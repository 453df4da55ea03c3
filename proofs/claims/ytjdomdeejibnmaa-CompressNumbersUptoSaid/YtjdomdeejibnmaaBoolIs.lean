/- An answer that is the truth of a sentence. -/
import Derived.Below
namespace Go.Proofs.Ytjdomdeejibnmaa.Tok
open Go.RowKit
def BoolIs (e : Ending) (p : Prop) : Prop := ∃ b, e = .returned (.bool b) ∧ (b = true ↔ p)
theorem BoolIs.yes {p : Prop} (h : p) : BoolIs (.returned (.bool true)) p := ⟨true, rfl, by simp [h]⟩
theorem BoolIs.no {p : Prop} (h : ¬ p) : BoolIs (.returned (.bool false)) p := ⟨false, rfl, by simp [h]⟩
theorem BoolIs.of {e : Ending} {p : Prop} (h : BoolIs e p) (hp : p) : e = .returned (.bool true) := by
  obtain ⟨b, rfl, hb⟩ := h
  rw [hb.2 hp]
theorem BoolIs.not {e : Ending} {p : Prop} (h : BoolIs e p) (hp : ¬ p) : e = .returned (.bool false) := by
  obtain ⟨b, rfl, hb⟩ := h
  cases b
  · rfl
  · exact absurd (hb.1 rfl) hp
end Go.Proofs.Ytjdomdeejibnmaa.Tok
