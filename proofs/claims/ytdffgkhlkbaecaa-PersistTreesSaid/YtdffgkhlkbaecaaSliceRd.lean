/- Slice expressions of slices that read as lists: one step, whatever block they lie in. -/
import Derived.Test.YtdffgkhlkbaecaaAppend
namespace Go.Proofs.Ytdffgkhlkbaecaa.Tok
open Go.RowKit

theorem Rd.cut {w : World} {B size n c : Nat} {A : Option Addr} {xs : List Value} (h : Rd w B size A n xs) (hnc : n ≤ c) (l m : Nat) (hlm : l + m ≤ n) :
    Rd w B size (if c = l then A else A.map (·.add (l * size))) m ((xs.drop (l * size)).take (m * size)) := by
  have hl := h.len
  have hmul : l * size + m * size ≤ n * size := by rw [← Nat.add_mul]; exact Nat.mul_le_mul_right _ hlm
  refine ⟨by rw [List.length_take, List.length_drop]; omega, fun hm => ?_⟩
  obtain ⟨b, off, rfl, hb, hc⟩ := h.pos (by omega)
  rw [if_neg (by omega)]
  refine ⟨b, off + l * size, by rw [Option.map_some, Go.WideShapes.add_plain], hb, fun j u hu => ?_⟩
  have hj := (List.getElem?_eq_some_iff.1 hu).1
  rw [List.length_take, List.length_drop] at hj
  have := hc (l * size + j) u (by rw [← hu, List.getElem?_take_of_lt (by omega), List.getElem?_drop])
  rwa [← Nat.add_assoc] at this

section
variable {P : Program} (w : World)
theorem run_size (t : TypeId) (i : TypeInfo) (size : Nat) (hi : P.info? t = some i) (hsize : i.size = size) : (sizeOf t).run P w = .ok size w := by
  simp [sizeOf, typeInfo, hi, hsize]
/-- x[:h] -/
theorem wpList_slice_to {ops : Array Oper} {rest : List Oper} {o : Oper} {a : Act} {Q : Exit → Act → World → Prop} (hw : Region.wanted o (yielded ops a.tmps) = true) (s x : Operand) (t e : TypeId)
    (ho : o.op = .slice t s none (some x) none) (i : TypeInfo) (size : Nat) (ht : P.underlying t = some (.slice e)) (hel : P.elem t = e) (hi : P.info? e = some i) (hsize : i.size = size)
    (A : Option Addr) (n c : Nat) (hs : a.eval s = .slice A n c) (k : IntKind) (h : Nat) (hx : a.eval x = .int k (h : Nat)) (hhn : h ≤ n) (hnc : n ≤ c)
    (B : Nat) (xs : List Value) (hr : Rd w B size A n xs)
    (hQ : ∀ A' c', Rd w B size A' h (xs.take (h * size)) → wpList P ops Q rest (a.put o.dst (.slice A' h c')) w) : wpList P ops Q (o :: rest) a w :=
  wpList_step fun K hK => by
    rw [if_pos hw]
    have hcut := hr.cut hnc 0 h (by omega)
    rw [Nat.zero_mul, List.drop_zero] at hcut
    have hrun := run_slice_h (P := P) w t A n c (by rw [hel]; exact ht) k (h : Int) (by omega) (by omega)
    rw [hel, run_size w e i size hi hsize] at hrun
    simp only [Result.andThen_ok, Int.toNat_natCast, sliced, Nat.sub_zero, Nat.zero_mul] at hrun
    unfold Oper.wp execOp
    simp only [ho, Sem.run_bind, Sem.run_pure, Result.andThen_ok, hs, hx, run_sliceAt_slice w t _ _ _ _ (by rw [hel]; exact ht), hrun, Option.map_some, Option.map_none]
    exact hK _ _ (hQ _ _ hcut)
/-- x[l:] -/
theorem wpList_slice_from {ops : Array Oper} {rest : List Oper} {o : Oper} {a : Act} {Q : Exit → Act → World → Prop} (hw : Region.wanted o (yielded ops a.tmps) = true) (s x : Operand) (t e : TypeId)
    (ho : o.op = .slice t s (some x) none none) (i : TypeInfo) (size : Nat) (ht : P.underlying t = some (.slice e)) (hel : P.elem t = e) (hi : P.info? e = some i) (hsize : i.size = size)
    (A : Option Addr) (n c : Nat) (hs : a.eval s = .slice A n c) (k : IntKind) (l : Nat) (hx : a.eval x = .int k (l : Nat)) (hln : l ≤ n) (hnc : n ≤ c)
    (B : Nat) (xs : List Value) (hr : Rd w B size A n xs)
    (hQ : ∀ A' c', Rd w B size A' (n - l) (xs.drop (l * size)) → wpList P ops Q rest (a.put o.dst (.slice A' (n - l) c')) w) : wpList P ops Q (o :: rest) a w :=
  wpList_step fun K hK => by
    rw [if_pos hw]
    have hcut := hr.cut hnc l (n - l) (by omega)
    rw [List.take_of_length_le (by rw [List.length_drop, hr.len, ← Nat.sub_mul]; exact Nat.le_refl _)] at hcut
    have hrun := run_slice_l (P := P) w t A n c (by rw [hel]; exact ht) k (l : Int) (by omega) (by omega)
    rw [hel, run_size w e i size hi hsize] at hrun
    simp only [Result.andThen_ok, Int.toNat_natCast, sliced] at hrun
    unfold Oper.wp execOp
    simp only [ho, Sem.run_bind, Sem.run_pure, Result.andThen_ok, hs, hx, run_sliceAt_slice w t _ _ _ _ (by rw [hel]; exact ht), hrun, Option.map_some, Option.map_none]
    exact hK _ _ (hQ _ _ hcut)
/-- x[:h] at a step of a region that draws its order, said for all worlds of a kind. -/
theorem step_slice_to {ops : Array Oper} {o : Oper} {a : Act} {K : Act → World → Prop} {Q : Exit → Act → World → Prop} {E : Prop} (hgd : o.guard = none) (s x : Operand) (t e : TypeId)
    (ho : o.op = .slice t s none (some x) none) (i : TypeInfo) (size : Nat) (ht : P.underlying t = some (.slice e)) (hel : P.elem t = e) (hi : P.info? e = some i) (hsize : i.size = size)
    (A : Option Addr) (n c : Nat) (hs : a.eval s = .slice A n c) (k : IntKind) (h : Nat) (hx : a.eval x = .int k (h : Nat)) (hhn : h ≤ n) (hnc : n ≤ c)
    (B : Nat) (xs : List Value) (p : World → Prop) (hr : ∀ W, p W → Rd W B size A n xs)
    (hQ : ∀ A' c', (∀ W, p W → Rd W B size A' h (xs.take (h * size))) → K (a.put o.dst (.slice A' h c')) w) : if Region.wanted o (yielded ops a.tmps) = true then Oper.wp P o a w K Q else E := by
  have hw : Region.wanted o (yielded ops a.tmps) = true := by simp [Region.wanted, hgd]
  rw [if_pos hw]
  have hcut : ∀ W, p W → _ := fun W hW => (hr W hW).cut hnc 0 h (by omega)
  rw [Nat.zero_mul, List.drop_zero] at hcut
  have hrun := run_slice_h (P := P) w t A n c (by rw [hel]; exact ht) k (h : Int) (by omega) (by omega)
  rw [hel, run_size w e i size hi hsize] at hrun
  simp only [Result.andThen_ok, Int.toNat_natCast, sliced, Nat.sub_zero, Nat.zero_mul] at hrun
  unfold Oper.wp execOp
  simp only [ho, Sem.run_bind, Sem.run_pure, Result.andThen_ok, hs, hx, run_sliceAt_slice w t _ _ _ _ (by rw [hel]; exact ht), hrun, Option.map_some, Option.map_none]
  exact hQ _ _ hcut
theorem step_slice_from {ops : Array Oper} {o : Oper} {a : Act} {K : Act → World → Prop} {Q : Exit → Act → World → Prop} {E : Prop} (hgd : o.guard = none) (s x : Operand) (t e : TypeId)
    (ho : o.op = .slice t s (some x) none none) (i : TypeInfo) (size : Nat) (ht : P.underlying t = some (.slice e)) (hel : P.elem t = e) (hi : P.info? e = some i) (hsize : i.size = size)
    (A : Option Addr) (n c : Nat) (hs : a.eval s = .slice A n c) (k : IntKind) (l : Nat) (hx : a.eval x = .int k (l : Nat)) (hln : l ≤ n) (hnc : n ≤ c)
    (B : Nat) (xs : List Value) (p : World → Prop) (hr : ∀ W, p W → Rd W B size A n xs)
    (hQ : ∀ A' c', (∀ W, p W → Rd W B size A' (n - l) (xs.drop (l * size))) → K (a.put o.dst (.slice A' (n - l) c')) w) : if Region.wanted o (yielded ops a.tmps) = true then Oper.wp P o a w K Q else E := by
  have hw : Region.wanted o (yielded ops a.tmps) = true := by simp [Region.wanted, hgd]
  rw [if_pos hw]
  have hcut : ∀ W, p W → Rd W B size (if c = l then A else A.map (·.add (l * size))) (n - l) (xs.drop (l * size)) := fun W hW => by
    have := (hr W hW).cut hnc l (n - l) (by omega)
    rwa [List.take_of_length_le (by rw [List.length_drop, (hr W hW).len, ← Nat.sub_mul]; exact Nat.le_refl _)] at this
  have hrun := run_slice_l (P := P) w t A n c (by rw [hel]; exact ht) k (l : Int) (by omega) (by omega)
  rw [hel, run_size w e i size hi hsize] at hrun
  simp only [Result.andThen_ok, Int.toNat_natCast, sliced] at hrun
  unfold Oper.wp execOp
  simp only [ho, Sem.run_bind, Sem.run_pure, Result.andThen_ok, hs, hx, run_sliceAt_slice w t _ _ _ _ (by rw [hel]; exact ht), hrun, Option.map_some, Option.map_none]
  exact hQ _ _ hcut
end
end Go.Proofs.Ytdffgkhlkbaecaa.Tok
