/- An api.Frame, a compress.Code, and what they hold, of an argument, opened to what they read as. -/
import Derived.Test.YtjdomdeejibnmaaOpen
import Derived.Test.YtjdomdeejibnmaaMand
import Derived.ChangeSlices
import Derived.Lib.SmallJoins
namespace Go.Proofs.Ytjdomdeejibnmaa.Tok
open Go.Joins Go.ChangeShapes Go.WideShapes Go.ChangeAt Go.RowKit Go.Deep Go.Proofs.Ytjdomdeejibnmaa

section
variable {H : Type} {enc : TypeId × Value → H} {W : World}

/-- A slice, whatever it holds. -/
theorem open_any {P : Program} {t e : TypeId} {fuel : Nat} {cs : List Value} {x : DataW H × List MemPlace} (ht : P.underlying t = some (.slice e)) (h : DataW.trod enc P W 0 (fun _ => true) true fuel t cs = some x) : ∃ (A : Option Addr) (n c : Nat), cs = [.slice A n c] ∧ n ≤ c := by
  rcases Go.Deep.open_slice ht h with ⟨hcs, _⟩ | ⟨a, len, cap, m, n', D, Pl, hcs, _, hl, _⟩
  · exact ⟨none, 0, 0, hcs, Nat.le_refl _⟩
  · exact ⟨_, _, _, hcs, hl⟩

set_option maxRecDepth 100000 in
theorem open_strsT {fuel : Nat} {cs : List Value} {x : DataW H × List MemPlace} (hf : DataW.trod enc Try.prog W 0 (fun _ => true) true fuel 22 cs = some x) :
    ∃ (A : Option Addr) (n c : Nat) (ss : List ByteArray), cs = [.slice A n c] ∧ n ≤ c ∧ n ≤ maxLen ∧ ss.length = n ∧ (∀ s ∈ ss, s.size ≤ maxLen) ∧ Rd W W.heap.size 1 A n (ss.map Value.string) := by
  rcases open_strings Try.underlying22 Try.underlying9 (by kernel_rfl) hf with ⟨hcs, _⟩ | ⟨a, n, c, ss, hcs, _, hl, hm, hsl, _, hc, hw⟩
  · exact ⟨none, 0, 0, [], hcs, Nat.le_refl _, Nat.zero_le _, rfl, fun s hs => by simp at hs, Rd.nil _ _ _ _⟩
  · have hsl' : ss.length = c := by simpa using hsl
    have hlt : (ss.take n).length = n := by rw [List.length_take]; omega
    refine ⟨_, n, c, ss.take n, hcs, hl, by omega, hlt, fun s hs => hw s (List.mem_of_mem_take hs), rd_of (by rw [List.length_map, hlt]; omega) (by omega) ?_⟩
    intro j u hu
    rw [List.getElem?_map] at hu
    cases hj : (ss.take n)[j]? with
    | none => simp [hj] at hu
    | some s =>
      rw [hj] at hu
      injection hu with hu
      subst hu
      have hjn : j < n := by
        have := (List.getElem?_eq_some_iff.1 hj).1
        omega
      have hjs : ss[j]? = some s := by rw [List.getElem?_take] at hj; simpa [hjn] using hj
      rw [hc j (by omega), List.getD, hjs]
      rfl

set_option maxRecDepth 100000 in
theorem open_intsT {fuel : Nat} {cs : List Value} {x : DataW H × List MemPlace} (hf : DataW.trod enc Try.prog W 0 (fun _ => true) true fuel 23 cs = some x) :
    ∃ (A : Option Addr) (n c : Nat) (l : List Int), cs = [.slice A n c] ∧ n ≤ c ∧ n ≤ maxLen ∧ l.length = n ∧ Rd W W.heap.size 1 A n (l.map (Value.int .i64)) := by
  rcases open_ints Try.underlying23 Try.underlying3 (by kernel_rfl) hf with ⟨hcs, _⟩ | ⟨a, n, c, ss, hcs, _, hl, hm, hsl, _, hc, hw⟩
  · exact ⟨none, 0, 0, [], hcs, Nat.le_refl _, Nat.zero_le _, rfl, Rd.nil _ _ _ _⟩
  · have hsl' : ss.length = c := by simpa using hsl
    have hlt : (ss.take n).length = n := by rw [List.length_take]; omega
    refine ⟨_, n, c, ss.take n, hcs, hl, by omega, hlt, rd_of (by rw [List.length_map, hlt]; omega) (by omega) ?_⟩
    intro j u hu
    rw [List.getElem?_map] at hu
    cases hj : (ss.take n)[j]? with
    | none => simp [hj] at hu
    | some s =>
      rw [hj] at hu
      injection hu with hu
      subst hu
      have hjn : j < n := by
        have := (List.getElem?_eq_some_iff.1 hj).1
        omega
      have hjs : ss[j]? = some s := by rw [List.getElem?_take] at hj; simpa [hjn] using hj
      rw [hc j (by omega), List.getD, hjs]
      rfl

theorem three_of' {l : List Value} (h : l.length = 3) : ∃ a b c, l = [a, b, c] := by
  match l, h with
  | [a, b, c], _ => exact ⟨a, b, c, rfl⟩
theorem eight_of {l : List Value} (h : l.length = 8) : ∃ a b c d e f g i, l = [a, b, c, d, e, f, g, i] := by
  match l, h with
  | [a, b, c, d, e, f, g, i], _ => exact ⟨a, b, c, d, e, f, g, i, rfl⟩
set_option maxRecDepth 100000 in
theorem code_fields : ∃ f0 f1 : Field, Try.prog.underlying 25 = some (.struct #[f0, f1]) ∧ f0.type = 22 ∧ f1.type = 23 ∧ Go.Deep.oneCellFields Try.prog #[f0, f1] = true :=
  ⟨_, _, Try.underlying25, rfl, rfl, by kernel_rfl⟩
set_option maxRecDepth 100000 in
theorem open_code {r : Reach} {b0 : Nat} {v : Value} {d : DataW H} {p : List MemPlace} (hok : Value.okWide Try.prog W r b0 25 v) (h : DataW.Trod enc Try.prog W 0 (fun _ => true) true 25 v d p) :
    ∃ (A L : Option Addr) (nl cl n c : Nat) (lb : List ByteArray) (l : List Int), v = .agg #[.slice A nl cl, .slice L n c] ∧ nl ≤ cl ∧ nl ≤ maxLen ∧ n ≤ maxLen ∧ (∀ s ∈ lb, s.size ≤ maxLen) ∧ Rd W W.heap.size 1 A nl (lb.map Value.string) ∧ Rd W W.heap.size 1 L n (l.map (Value.int .i64)) := by
  obtain ⟨f0, f1, hu, h0, h1, hone⟩ := code_fields
  obtain ⟨cs, rfl, hsz⟩ := okWide_struct hu hok
  obtain ⟨l⟩ := cs
  have hc8 : Try.prog.cellsOf 25 = 2 := by kernel_rfl
  obtain ⟨a, b, rfl⟩ := two_of (hsz.trans hc8)
  obtain ⟨fuel, hf0⟩ := h
  obtain ⟨xs, n, _, _, _, hx, hf⟩ := DataW.trod_struct hu hf0
  have hx2 : xs.length = 2 := hx
  obtain ⟨o0, k0⟩ := Go.Deep.hone_of hone 0 f0 rfl
  obtain ⟨o1, k1⟩ := Go.Deep.hone_of hone 1 f1 rfl
  have g0 := hf 0 f0 rfl
  have g1 := hf 1 f1 rfl
  rw [o0, k0, h0, List.getElem?_eq_getElem (by omega)] at g0
  rw [o1, k1, h1, List.getElem?_eq_getElem (by omega)] at g1
  obtain ⟨A, nl, cl, lb, e0, hlc, hl, _, hs, hr⟩ := open_strsT g0
  obtain ⟨L, n, c, ll, e1, _, hn, _, hr1⟩ := open_intsT g1
  simp [Value.cells] at e0 e1
  subst e0 e1
  exact ⟨A, L, nl, cl, n, c, lb, ll, rfl, hlc, hl, hn, hs, hr, hr1⟩
end
end Go.Proofs.Ytjdomdeejibnmaa.Tok
