/- Contracts of both Gaps. -/
import Derived.Test.YtjdomdeejibnmaaLocalMath
import Derived.Test.YtjdomdeejibnmaaAppend
import Derived.Test.YtjdomdeejibnmaaKeywords
namespace Go.Proofs.Ytjdomdeejibnmaa.Tok
open Go.RowKit Go.Proofs.Ytjdomdeejibnmaa

theorem toksF_sorted (L : List UInt8) : ∀ (f i : Nat), (toksF L f i).Pairwise fun p q => p.2 ≤ q.1 := by
  intro f
  induction f with
  | zero => intro i; exact List.Pairwise.nil
  | succ f ih =>
    intro i
    unfold toksF
    cases hL : L[i]? with
    | none => exact List.Pairwise.nil
    | some b =>
      simp only
      by_cases hb : prB b = true
      · rw [if_pos hb]
        exact List.Pairwise.cons (fun q hq => (toksF_in L f _ q hq).1) (ih _)
      · rw [if_neg hb]
        exact ih _
theorem toks_sorted (L : List UInt8) (i : Nat) : (toks L i).Pairwise fun p q => p.2 ≤ q.1 := toksF_sorted L _ i

/-- Where the token before number k ends. -/
def endTo (ts : List (Nat × Nat)) (k : Nat) : Nat := if h : 0 < k ∧ k ≤ ts.length then (ts[k - 1]'(by omega)).2 else 0
theorem endTo_zero (ts : List (Nat × Nat)) : endTo ts 0 = 0 := by unfold endTo; rw [dif_neg (by omega)]
theorem endTo_succ (ts : List (Nat × Nat)) (k : Nat) (h : k < ts.length) : endTo ts (k + 1) = ts[k].2 := by unfold endTo; rw [dif_pos ⟨by omega, by omega⟩]; simp
theorem endTo_le {s : ByteArray} {ts : List (Nat × Nat)} (hs : ∀ p ∈ ts, p.1 < p.2 ∧ p.2 ≤ s.size) (k : Nat) : endTo ts k ≤ s.size := by
  unfold endTo
  split
  · exact (hs _ (List.getElem_mem _)).2
  · omega
theorem endTo_at {ts : List (Nat × Nat)} (hp : ts.Pairwise fun p q => p.2 ≤ q.1) (k : Nat) (h : k < ts.length) : endTo ts k ≤ ts[k].1 := by
  unfold endTo
  split
  · exact List.pairwise_iff_getElem.1 hp (k - 1) k (by omega) h (by omega)
  · omega

/-- The gap ahead of token k; all gaps. -/
def gapK (s : ByteArray) (ts : List (Nat × Nat)) (k : Nat) : ByteArray := if h : k < ts.length then s.extract (endTo ts k) ts[k].1 else s.extract (endTo ts k) s.size
def gapsTo (s : ByteArray) (ts : List (Nat × Nat)) (k : Nat) : List ByteArray := (List.range k).map (gapK s ts)
def gapsOf (s : ByteArray) (ts : List (Nat × Nat)) : List ByteArray := gapsTo s ts (ts.length + 1)
theorem gapsTo_succ (s : ByteArray) (ts : List (Nat × Nat)) (k : Nat) : gapsTo s ts (k + 1) = gapsTo s ts k ++ [gapK s ts k] := by
  unfold gapsTo
  rw [List.range_succ, List.map_append]
  rfl

theorem gapsOf_len (s : ByteArray) (ts : List (Nat × Nat)) : (gapsOf s ts).length = ts.length + 1 := by simp [gapsOf, gapsTo]
theorem own_base {w : World} {B B' e size n : Nat} {v : Value} {xs : List Value} (h : w.ownsRow B e size v n xs) (hB : B' ≤ B) : w.ownsRow B' e size v n xs := by
  refine ⟨h.1, ?_⟩
  rcases h.2 with h1 | ⟨g, cap, cur, hv, h1, h2⟩
  · exact .inl h1
  · exact .inr ⟨g, cap, cur, hv, Nat.le_trans hB h1, h2⟩

structure Ordered (s : ByteArray) (ts : List (Nat × Nat)) : Prop where
  inside : ∀ p ∈ ts, p.1 < p.2 ∧ p.2 ≤ s.size
  pair : ts.Pairwise fun p q => p.2 ≤ q.1
theorem ordered_of {s : ByteArray} {ts : List (Nat × Nat)} {a er : Nat} (h : ScanIs s ts a er) : Ordered s ts := by
  rcases h with ⟨_, rfl, _⟩ | ⟨_, _, rfl, _⟩ | ⟨_, _, _, _, rfl, _⟩ | ⟨_, _, _, rfl, _⟩
  · exact ⟨fun p hp => by simp at hp, List.Pairwise.nil⟩
  · exact ⟨fun p hp => by simp at hp, List.Pairwise.nil⟩
  · exact ⟨fun p hp => by simp at hp, List.Pairwise.nil⟩
  · exact ⟨fun p hp => by have := toks_in hp; simp at this; omega, toks_sorted _ _⟩
theorem size_of {s : ByteArray} {ts : List (Nat × Nat)} {a : Nat} (h : ScanIs s ts a 0) : s.size ≤ 40000 := by
  rcases h with ⟨_, _, _, h⟩ | ⟨h, _⟩ | ⟨h, _⟩ | ⟨h, _⟩
  · omega
  · exact h
  · exact h
  · exact h

def GapsGood (s : ByteArray) (w : World) (e : Ending) (w' : World) : Prop :=
  ∃ (A : Option Addr) (c : Nat) (gs : List ByteArray) (ts : List (Nat × Nat)) (a er : Nat), e = .returned (.tuple #[.slice A gs.length c, .int .i64 (er : Nat)]) ∧ ScanIs s ts a er ∧ ts.length ≤ 8000 ∧ gs = (if er = 0 then gapsOf s ts else []) ∧
    w'.ownsRow w.heap.size 9 1 (.slice A gs.length c) gs.length (gs.map Value.string) ∧ Below w.heap.size w w'

theorem ext_size (s : ByteArray) (i j : Nat) (h : i ≤ j) (hj : j ≤ s.size) : (s.extract i j).size = j - i := by
  rw [ByteArray.size_extract]
  omega

end Go.Proofs.Ytjdomdeejibnmaa.Tok
