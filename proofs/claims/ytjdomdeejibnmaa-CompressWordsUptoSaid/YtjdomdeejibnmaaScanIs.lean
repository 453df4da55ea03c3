/- Both Scans in one word, for every text. -/
import Derived.Test.YtjdomdeejibnmaaRefScan
import Derived.Test.YtjdomdeejibnmaaTexts
namespace Go.Proofs.Ytjdomdeejibnmaa.Tok
open Go.RowKit Go.Proofs.Ytjdomdeejibnmaa

/-- The result of Scan: the places of the tokens, the offset, the error. -/
def ScanIs (s : ByteArray) (ts : List (Nat × Nat)) (a er : Nat) : Prop :=
  (40000 < s.size ∧ ts = [] ∧ a = 0 ∧ er = 4) ∨ (s.size ≤ 40000 ∧ badAt s a ∧ ts = [] ∧ er = 30) ∨
  (s.size ≤ 40000 ∧ fine s s.size ∧ 8000 < (toks s.data.toList 0).length ∧ (∃ p, (toks s.data.toList 0)[8000]? = some p ∧ a = p.1) ∧ ts = [] ∧ er = 8) ∨
  (s.size ≤ 40000 ∧ fine s s.size ∧ (toks s.data.toList 0).length ≤ 8000 ∧ ts = toks s.data.toList 0 ∧ a = 0 ∧ er = 0)

theorem ScanIs.same {s : ByteArray} {ts ts' : List (Nat × Nat)} {a a' er er' : Nat} (h : ScanIs s ts a er) (h' : ScanIs s ts' a' er') : ts = ts' ∧ a = a' ∧ er = er' := by
  rcases h with ⟨h0, rfl, rfl, rfl⟩ | ⟨h0, hb, rfl, rfl⟩ | ⟨h0, hf, hl, ⟨p, hp, rfl⟩, rfl, rfl⟩ | ⟨h0, hf, hl, rfl, rfl, rfl⟩ <;>
  rcases h' with ⟨g0, rfl, rfl, rfl⟩ | ⟨g0, gb, rfl, rfl⟩ | ⟨g0, gf, gl, ⟨q, gp, rfl⟩, rfl, rfl⟩ | ⟨g0, gf, gl, rfl, rfl, rfl⟩
  all_goals first
    | exact ⟨rfl, rfl, rfl⟩
    | omega
    | (exfalso; exact bad_not_fine hb gf)
    | (exfalso; exact bad_not_fine gb hf)
    | skip
  · exact ⟨rfl, bad_unique hb gb, rfl⟩
  · rw [hp] at gp; injection gp with gp; rw [gp]; exact ⟨rfl, rfl, rfl⟩

def cellsOf (s : ByteArray) (ts : List (Nat × Nat)) : List Value := ts.flatMap fun p => tokV (tk s p)

/-- The cells of tokens, as tokens with any offsets, and as their texts. -/
def intTok (s : ByteArray) (p : Nat × Nat) : ByteArray × Int := (s.extract p.1 p.2, (p.1 : Int))
theorem cells_int (s : ByteArray) (ts : List (Nat × Nat)) : cellsOf s ts = (ts.map (intTok s)).flatMap tokI := by
  unfold cellsOf
  rw [List.flatMap_map]
  rfl
theorem cells_tok (s : ByteArray) (ts : List (Nat × Nat)) : cellsOf s ts = (ts.map (tk s)).flatMap tokV := by
  unfold cellsOf
  rw [List.flatMap_map]
theorem txt_map (l : List (ByteArray × Int)) : l.map txt = (l.map (·.1)).map Value.string := by
  rw [List.map_map]
  rfl
end Go.Proofs.Ytjdomdeejibnmaa.Tok
