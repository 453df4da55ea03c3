/- Contracts of what tells keywords. -/
import Derived.Test.YtjdomdeejibnmaaTexts
import Derived.Lib.ConvBytes
import Derived.Laws.Cover3
import Derived.Laws.StructEq
namespace Go.Proofs.Ytjdomdeejibnmaa.Tok
open Go.RowKit Go.Proofs.Ytjdomdeejibnmaa

/-- The second byte of keyword k. -/
def kwN (k : Nat) : Nat := [99, 118, 102, 101, 100, 97, 112, 46, 61, 123, 125, 40, 41, 91, 93].getD k 0
def kwS (k : Nat) : ByteArray := ⟨#[36, UInt8.ofNat (kwN k)]⟩
def kwA : Array Value := ((List.range 15).flatMap fun k => [Value.int .u8 36, Value.int .u8 (kwN k : Nat)]).toArray
def kwL : List Value := (List.range 15).map fun k => Value.string (kwS k)
def isKw (s : ByteArray) : Bool := (List.range 15).any fun k => (kwS k).toList == s.toList

theorem build_to {P : Program} {ops : Array Oper} {rest : List Oper} {o : Oper} {a : Act} {w : World} {Q : Exit → Act → World → Prop} (hg : o.guard = none) (t : TypeId) (parts : Array (Nat × Operand)) (ho : o.op = .build t parts)
    (cells : Array Value) (hc : P.built t (parts.map fun (i, x) => (i, a.eval x)).toList = some cells) (h : wpList P ops Q rest (a.put o.dst (.agg cells)) w) : wpList P ops Q (o :: rest) a w :=
  wpList_build hg t parts ho (by rw [hc]; rfl) (by rw [hc]; exact h)
theorem kwA_size : kwA.size = 30 := by kernel_rfl
theorem kwA_one : kwA.all (·.oneCell') = true := by kernel_rfl

theorem conv2 (s : ByteArray) (h : s.size = 2) (w : World) : ∃ W1 cp, (convert 9 51 (.string s)).run Try.prog w = .ok (.slice (some ⟨w.heap.size, 0, none⟩) 2 cp) W1 ∧ w.heap.size < W1.heap.size ∧ Below w.heap.size w W1 ∧
    W1.cell? ⟨w.heap.size, 0, none⟩ = some (.int .u8 ((s.data.toList.getD 0 0).toNat : Nat)) ∧ W1.cell? ⟨w.heap.size, 1, none⟩ = some (.int .u8 ((s.data.toList.getD 1 0).toNat : Nat)) := by
  refine ⟨Lib.bytesWorld w 5 s, _, by rw [← h]; exact Lib.run_convert_string_bytes w _ _ _ s Try.underlying9 Try.underlying51 Try.underlying5, by rw [Lib.bytesWorld_size]; omega, ?_, Lib.bytesWorld_cell w _ s 0 (by omega), Lib.bytesWorld_cell w _ s 1 (by omega)⟩
  exact ⟨rfl, rfl, rfl, by rw [Lib.bytesWorld_size]; omega, fun k hk => Lib.bytesWorld_at_old _ _ _ _ hk⟩

theorem kwS_eq (s : ByteArray) (h : s.size = 2) (k : Nat) (hk : kwN k < 256) : ((kwS k).toList == s.toList) = ((((s.data.toList.getD 0 0).toNat : Nat) : Int) == 36 && (((s.data.toList.getD 1 0).toNat : Nat) : Int) == ((kwN k : Nat) : Int)) := by
  rw [ByteArray.toList_eq, ByteArray.toList_eq]
  have hl : s.data.toList.length = 2 := by simpa using h
  generalize s.data.toList = l at hl
  match l, hl with
  | [a, b], _ =>
    have e : (kwS k).data.toList = [36, UInt8.ofNat (kwN k)] := rfl
    rw [e]
    have hb : (UInt8.ofNat (kwN k)).toNat = kwN k := by simp; omega
    rw [Bool.eq_iff_iff]
    simp only [List.getD_cons_zero, List.getD_cons_succ, Bool.and_eq_true, beq_iff_eq, List.cons.injEq, and_true]
    constructor
    · rintro ⟨h1, h2⟩
      subst h1 h2
      exact ⟨rfl, by rw [hb]⟩
    · rintro ⟨h1, h2⟩
      refine ⟨UInt8.toNat.inj ?_, UInt8.toNat.inj ?_⟩
      · have : (36 : UInt8).toNat = 36 := rfl
        omega
      · omega
theorem kwN_lt (k : Nat) (h : k < 15) : kwN k < 256 := by
  match k, h with
  | 0, _ => decide
  | 1, _ => decide
  | 2, _ => decide
  | 3, _ => decide
  | 4, _ => decide
  | 5, _ => decide
  | 6, _ => decide
  | 7, _ => decide
  | 8, _ => decide
  | 9, _ => decide
  | 10, _ => decide
  | 11, _ => decide
  | 12, _ => decide
  | 13, _ => decide
  | 14, _ => decide

theorem isKw_size (s : ByteArray) (h : s.size ≠ 2) : isKw s = false := by
  unfold isKw
  rw [List.any_eq_false]
  intro j _
  rw [ByteArray.toList_eq, ByteArray.toList_eq, beq_iff_eq]
  intro e
  have := congrArg List.length e
  exact h ((show s.size = (kwS j).size by simpa using this.symm).trans rfl)

theorem kwL_get (k : Nat) (h : k < 15) : kwL[k]? = some (.string (kwS k)) := by
  unfold kwL
  simp [h]

end Go.Proofs.Ytjdomdeejibnmaa.Tok
