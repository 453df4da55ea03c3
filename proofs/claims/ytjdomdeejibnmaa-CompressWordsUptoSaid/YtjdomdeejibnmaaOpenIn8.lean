/- A code of an argument of bounded bulk: its labels' room and the sum of their letters too. -/
import Derived.Test.YtjdomdeejibnmaaOpenIn
import Derived.Test.YtjdomdeejibnmaaOpenFrame
namespace Go.Proofs.Ytjdomdeejibnmaa.Tok
open Go.ChangeShapes Go.WideShapes Go.ChangeAt Go.RowKit Go.Proofs.Ytjdomdeejibnmaa

theorem le_of_wf {z : Int} (h : (Lit.int .i64 z).wf = true) : z ≤ 9223372036854775807 := by
  have : -9223372036854775808 ≤ z ∧ z ≤ 9223372036854775807 := by simpa [Lit.wf, IntKind.min, IntKind.max, IntKind.signed, IntKind.bits] using h
  exact this.2
section
variable {H : Type} {enc : TypeId × Value → H} {W : World}
set_option maxRecDepth 100000 in
theorem open_strs_inT {fuel : Nat} {cs : List Value} {x : DataW H × List MemPlace} (hf : DataW.trod enc Try.prog W 0 (fun _ => true) true fuel 22 cs = some x) (hd : Rows.uptoBulk x.1 ≤ 1048576) :
    ∃ (A : Option Addr) (n c : Nat) (ss : List ByteArray), cs = [.slice A n c] ∧ n ≤ maxLen ∧ Woven W A n c ss := by
  rcases open_strings Try.underlying22 Try.underlying9 (by kernel_rfl) hf with ⟨hcs, _⟩ | ⟨a, n, c, ss, hcs, _, hl, hm, hsl, hx, hc, _⟩
  · exact ⟨none, 0, 0, [], hcs, Nat.zero_le _, ⟨rfl, Nat.le_refl _, Nat.zero_le _, Rd.nil _ _ _ _⟩⟩
  · subst hx
    have hsl' : ss.length = c := by simpa using hsl
    have hlt : (ss.take n).length = n := by rw [List.length_take]; omega
    have hb := bulk_strs (H := H) (ss.take n)
    simp only [Rows.uptoBulk] at hd
    refine ⟨_, n, c, ss.take n, hcs, by omega, ⟨hlt, hl, by omega, rd_of (by rw [List.length_map, hlt]; omega) (by omega) ?_⟩⟩
    intro j u hu
    rw [List.getElem?_map] at hu
    cases hj : (ss.take n)[j]? with
    | none => simp [hj] at hu
    | some s =>
      rw [hj] at hu
      injection hu with hu
      subst hu
      have hjn : j < n := by
        have := (List.getElem?_eq_some_iff.1 hj).1
        omega
      have hjs : ss[j]? = some s := by rw [List.getElem?_take] at hj; simpa [hjn] using hj
      rw [hc j (by omega), List.getD, hjs]
      rfl
set_option maxRecDepth 100000 in
theorem open_code_in {r : Reach} {b0 : Nat} {v : Value} {d : DataW H} {p : List MemPlace} (hok : Value.okWide Try.prog W r b0 25 v) (h : DataW.Trod enc Try.prog W 0 (fun _ => true) true 25 v d p) (hd : Rows.uptoBulk d ≤ 1048576) :
    ∃ (A L : Option Addr) (nl cl n c : Nat) (lb : List ByteArray) (l : List Int), v = .agg #[.slice A nl cl, .slice L n c] ∧ n ≤ maxLen ∧ Woven W A nl cl lb ∧ Rd W W.heap.size 1 L n (l.map (Value.int .i64)) := by
  obtain ⟨f0, f1, hu, h0, h1, hone⟩ := code_fields
  obtain ⟨cs, rfl, hsz⟩ := okWide_struct hu hok
  obtain ⟨l⟩ := cs
  have hc8 : Try.prog.cellsOf 25 = 2 := by kernel_rfl
  obtain ⟨a, b, rfl⟩ := two_of (hsz.trans hc8)
  obtain ⟨fuel, hf0⟩ := h
  obtain ⟨xs, n, _, he, _, hx, hf⟩ := DataW.trod_struct hu hf0
  obtain ⟨o0, k0⟩ := Go.Deep.hone_of hone 0 f0 rfl
  obtain ⟨o1, k1⟩ := Go.Deep.hone_of hone 1 f1 rfl
  match xs, hx, he, hf with
  | [y0, y1], hx, he, hf =>
    have g0 := hf 0 f0 rfl
    have g1 := hf 1 f1 rfl
    simp only [List.getElem?_cons_zero, List.getElem?_cons_succ] at g0 g1
    rw [o0, k0, h0] at g0
    rw [o1, k1, h1] at g1
    injection he with he _
    subst he
    simp only [List.map_cons, List.map_nil, Rows.uptoBulk, Rows.uptoBulkAll] at hd
    obtain ⟨A, nl, cl, lb, e0, _, hW⟩ := open_strs_inT g0 (by omega)
    obtain ⟨L, n, c, ll, e1, _, hn, _, hr1⟩ := open_intsT g1
    simp [Value.cells] at e0 e1
    subst e0 e1
    exact ⟨A, L, nl, cl, n, c, lb, ll, rfl, hn, hW, hr1⟩
end
end Go.Proofs.Ytjdomdeejibnmaa.Tok
