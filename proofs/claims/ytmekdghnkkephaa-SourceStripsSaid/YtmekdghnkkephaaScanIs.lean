/- Both Scans in one word, for every text. -/
import Derived.Test.YtmekdghnkkephaaRefScan
import Derived.Test.YtmekdghnkkephaaTexts
namespace Go.Proofs.Ytmekdghnkkephaa.Tok
open Go.RowKit Go.Proofs.Ytmekdghnkkephaa

/-- The result of Scan: the places of the tokens, the offset, the error. -/
def ScanIs (s : ByteArray) (ts : List (Nat × Nat)) (a er : Nat) : Prop :=
  (40000 < s.size ∧ ts = [] ∧ a = 0 ∧ er = 4) ∨ (s.size ≤ 40000 ∧ badAt s a ∧ ts = [] ∧ er = 30) ∨
  (s.size ≤ 40000 ∧ fine s s.size ∧ 8000 < (toks s.data.toList 0).length ∧ (∃ p, (toks s.data.toList 0)[8000]? = some p ∧ a = p.1) ∧ ts = [] ∧ er = 8) ∨
  (s.size ≤ 40000 ∧ fine s s.size ∧ (toks s.data.toList 0).length ≤ 8000 ∧ ts = toks s.data.toList 0 ∧ a = 0 ∧ er = 0)

theorem ScanIs.same {s : ByteArray} {ts ts' : List (Nat × Nat)} {a a' er er' : Nat} (h : ScanIs s ts a er) (h' : ScanIs s ts' a' er') : ts = ts' ∧ a = a' ∧ er = er' := by
  rcases h with ⟨h0, rfl, rfl, rfl⟩ | ⟨h0, hb, rfl, rfl⟩ | ⟨h0, hf, hl, ⟨p, hp, rfl⟩, rfl, rfl⟩ | ⟨h0, hf, hl, rfl, rfl, rfl⟩ <;>
  rcases h' with ⟨g0, rfl, rfl, rfl⟩ | ⟨g0, gb, rfl, rfl⟩ | ⟨g0, gf, gl, ⟨q, gp, rfl⟩, rfl, rfl⟩ | ⟨g0, gf, gl, rfl, rfl, rfl⟩
  all_goals first
    | exact ⟨rfl, rfl, rfl⟩
    | omega
    | (exfalso; exact bad_not_fine hb gf)
    | (exfalso; exact bad_not_fine gb hf)
    | skip
  · exact ⟨rfl, bad_unique hb gb, rfl⟩
  · rw [hp] at gp; injection gp with gp; rw [gp]; exact ⟨rfl, rfl, rfl⟩

def cellsOf (s : ByteArray) (ts : List (Nat × Nat)) : List Value := ts.flatMap fun p => tokV (tk s p)

def ScanGood (s : ByteArray) (w : World) (e : Ending) (w' : World) : Prop :=
  ∃ (A : Option Addr) (c : Nat) (ts : List (Nat × Nat)) (a er : Nat), e = .returned (.tuple #[.slice A ts.length c, .int .i64 (a : Nat), .int .i64 (er : Nat)]) ∧ ScanIs s ts a er ∧ ts.length ≤ 8000 ∧
    w'.ownsRow w.heap.size 33 2 (.slice A ts.length c) ts.length (cellsOf s ts) ∧ Below w.heap.size w w'

theorem good_of {s : ByteArray} {w : World} {e : Ending} {w' : World} (hs : s.size ≤ 40000) (h : ScanPost s w e w') : ScanGood s w e w' := by
  obtain ⟨hb, h | h | h⟩ := h
  · obtain ⟨i, hi, rfl⟩ := h
    exact ⟨none, 0, [], i, 30, rfl, .inr (.inl ⟨hs, hi, rfl, rfl⟩), by simp, World.ownsRow_nil _ _ _ _, hb⟩
  · obtain ⟨hf, hl, p, hp, rfl⟩ := h
    exact ⟨none, 0, [], p.1, 8, rfl, .inr (.inr (.inl ⟨hs, hf, hl, ⟨p, hp, rfl⟩, rfl, rfl⟩)), by simp, World.ownsRow_nil _ _ _ _, hb⟩
  · obtain ⟨hf, hl, v, rfl, hown⟩ := h
    obtain ⟨A, c, rfl⟩ := own_slice hown
    exact ⟨A, c, _, 0, 0, rfl, .inr (.inr (.inr ⟨hs, hf, hl, rfl, rfl, rfl⟩)), hl, hown, hb⟩

theorem scan_good (s : ByteArray) (w : World) : Calls Try.prog 32 #[.string s] w (ScanGood s w) := by
  by_cases hs : s.size ≤ 40000
  · exact (scan_any s hs w).mono fun _ _ h => good_of hs h
  · refine (scan_size s (by omega) w).mono ?_
    rintro e w' ⟨rfl, hb⟩
    exact ⟨none, 0, [], 0, 4, rfl, .inl ⟨by omega, rfl, rfl, rfl⟩, by simp, World.ownsRow_nil _ _ _ _, hb⟩

theorem rscan_good (s : ByteArray) (w : World) : Calls Try.prog 36 #[.string s] w (ScanGood s w) := by
  by_cases hs : s.size ≤ 40000
  · exact (rscan_any s hs w).mono fun _ _ h => good_of hs h
  · refine (rscan_size s (by omega) w).mono ?_
    rintro e w' ⟨rfl, hb⟩
    exact ⟨none, 0, [], 0, 4, rfl, .inl ⟨by omega, rfl, rfl, rfl⟩, by simp, World.ownsRow_nil _ _ _ _, hb⟩

/-- The cells of tokens, as tokens with any offsets, and as their texts. -/
def intTok (s : ByteArray) (p : Nat × Nat) : ByteArray × Int := (s.extract p.1 p.2, (p.1 : Int))
theorem cells_int (s : ByteArray) (ts : List (Nat × Nat)) : cellsOf s ts = (ts.map (intTok s)).flatMap tokI := by
  unfold cellsOf
  rw [List.flatMap_map]
  rfl
theorem cells_tok (s : ByteArray) (ts : List (Nat × Nat)) : cellsOf s ts = (ts.map (tk s)).flatMap tokV := by
  unfold cellsOf
  rw [List.flatMap_map]
theorem txt_map (l : List (ByteArray × Int)) : l.map txt = (l.map (·.1)).map Value.string := by
  rw [List.map_map]
  rfl
end Go.Proofs.Ytmekdghnkkephaa.Tok
