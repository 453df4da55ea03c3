/- An api.Frame, a compress.Code, and what they hold, of an argument, opened to what they read as. -/
import Derived.Test.YtbccmookfpcbgaaOpen
import Derived.Test.YtbccmookfpcbgaaMand
import Derived.ChangeSlices
import Derived.Lib.SmallJoins
namespace Go.Proofs.Ytbccmookfpcbgaa.Tok
open Go.Joins Go.ChangeShapes Go.WideShapes Go.ChangeAt Go.RowKit Go.Deep Go.Proofs.Ytbccmookfpcbgaa

section
variable {H : Type} {enc : TypeId × Value → H} {W : World}

/-- A slice, whatever it holds. -/
theorem open_any {P : Program} {t e : TypeId} {fuel : Nat} {cs : List Value} {x : DataW H × List MemPlace} (ht : P.underlying t = some (.slice e)) (h : DataW.trod enc P W 0 (fun _ => true) true fuel t cs = some x) : ∃ (A : Option Addr) (n c : Nat), cs = [.slice A n c] ∧ n ≤ c := by
  rcases Go.Deep.open_slice ht h with ⟨hcs, _⟩ | ⟨a, len, cap, m, n', D, Pl, hcs, _, hl, _⟩
  · exact ⟨none, 0, 0, hcs, Nat.le_refl _⟩
  · exact ⟨_, _, _, hcs, hl⟩

set_option maxRecDepth 100000 in
theorem open_strsT {fuel : Nat} {cs : List Value} {x : DataW H × List MemPlace} (hf : DataW.trod enc Try.prog W 0 (fun _ => true) true fuel 22 cs = some x) :
    ∃ (A : Option Addr) (n c : Nat) (ss : List ByteArray), cs = [.slice A n c] ∧ n ≤ c ∧ n ≤ maxLen ∧ ss.length = n ∧ (∀ s ∈ ss, s.size ≤ maxLen) ∧ Rd W W.heap.size 1 A n (ss.map Value.string) := by
  rcases open_strings Try.underlying22 Try.underlying9 (by kernel_rfl) hf with ⟨hcs, _⟩ | ⟨a, n, c, ss, hcs, _, hl, hm, hsl, _, hc, hw⟩
  · exact ⟨none, 0, 0, [], hcs, Nat.le_refl _, Nat.zero_le _, rfl, fun s hs => by simp at hs, Rd.nil _ _ _ _⟩
  · have hsl' : ss.length = c := by simpa using hsl
    have hlt : (ss.take n).length = n := by rw [List.length_take]; omega
    refine ⟨_, n, c, ss.take n, hcs, hl, by omega, hlt, fun s hs => hw s (List.mem_of_mem_take hs), rd_of (by rw [List.length_map, hlt]; omega) (by omega) ?_⟩
    intro j u hu
    rw [List.getElem?_map] at hu
    cases hj : (ss.take n)[j]? with
    | none => simp [hj] at hu
    | some s =>
      rw [hj] at hu
      injection hu with hu
      subst hu
      have hjn : j < n := by
        have := (List.getElem?_eq_some_iff.1 hj).1
        omega
      have hjs : ss[j]? = some s := by rw [List.getElem?_take] at hj; simpa [hjn] using hj
      rw [hc j (by omega), List.getD, hjs]
      rfl

set_option maxRecDepth 100000 in
theorem open_intsT {fuel : Nat} {cs : List Value} {x : DataW H × List MemPlace} (hf : DataW.trod enc Try.prog W 0 (fun _ => true) true fuel 23 cs = some x) :
    ∃ (A : Option Addr) (n c : Nat) (l : List Int), cs = [.slice A n c] ∧ n ≤ c ∧ n ≤ maxLen ∧ l.length = n ∧ Rd W W.heap.size 1 A n (l.map (Value.int .i64)) := by
  rcases open_ints Try.underlying23 Try.underlying3 (by kernel_rfl) hf with ⟨hcs, _⟩ | ⟨a, n, c, ss, hcs, _, hl, hm, hsl, _, hc, hw⟩
  · exact ⟨none, 0, 0, [], hcs, Nat.le_refl _, Nat.zero_le _, rfl, Rd.nil _ _ _ _⟩
  · have hsl' : ss.length = c := by simpa using hsl
    have hlt : (ss.take n).length = n := by rw [List.length_take]; omega
    refine ⟨_, n, c, ss.take n, hcs, hl, by omega, hlt, rd_of (by rw [List.length_map, hlt]; omega) (by omega) ?_⟩
    intro j u hu
    rw [List.getElem?_map] at hu
    cases hj : (ss.take n)[j]? with
    | none => simp [hj] at hu
    | some s =>
      rw [hj] at hu
      injection hu with hu
      subst hu
      have hjn : j < n := by
        have := (List.getElem?_eq_some_iff.1 hj).1
        omega
      have hjs : ss[j]? = some s := by rw [List.getElem?_take] at hj; simpa [hjn] using hj
      rw [hc j (by omega), List.getD, hjs]
      rfl

set_option maxRecDepth 100000 in
theorem hyp_fields : ∃ f0 f1 f2 : Field, Try.prog.underlying 85 = some (.struct #[f0, f1, f2]) ∧ f0.type = 9 ∧ f1.type = 4 ∧ f2.type = 22 ∧ Go.Deep.oneCellFields Try.prog #[f0, f1, f2] = true :=
  ⟨_, _, _, Try.underlying85, rfl, rfl, rfl, by kernel_rfl⟩
theorem three_of' {l : List Value} (h : l.length = 3) : ∃ a b c, l = [a, b, c] := by
  match l, h with
  | [a, b, c], _ => exact ⟨a, b, c, rfl⟩
set_option maxRecDepth 100000 in
theorem open_hyp {fuel : Nat} {cs : List Value} {x : DataW H × List MemPlace} (h : DataW.trod enc Try.prog W 0 (fun _ => true) true fuel 85 cs = some x) : ∃ t : HypT, cs = hypV t := by
  obtain ⟨f0, f1, f2, hu, h0, h1, h2, hone⟩ := hyp_fields
  obtain ⟨xs, n, _, _, hl, hx, hf⟩ := DataW.trod_struct hu h
  have hc3 : Try.prog.cellsOf 85 = 3 := by kernel_rfl
  obtain ⟨a, b, c, rfl⟩ := three_of' (hl.trans hc3)
  obtain ⟨o0, k0⟩ := Go.Deep.hone_of hone 0 f0 rfl
  obtain ⟨o1, k1⟩ := Go.Deep.hone_of hone 1 f1 rfl
  obtain ⟨o2, k2⟩ := Go.Deep.hone_of hone 2 f2 rfl
  have hx2 : xs.length = 3 := hx
  have g0 := hf 0 f0 rfl
  have g1 := hf 1 f1 rfl
  have g2 := hf 2 f2 rfl
  rw [o0, k0, h0, List.getElem?_eq_getElem (by omega)] at g0
  rw [o1, k1, h1, List.getElem?_eq_getElem (by omega)] at g1
  rw [o2, k2, h2, List.getElem?_eq_getElem (by omega)] at g2
  obtain ⟨s, e0, _⟩ := DataW.trod_string Try.underlying9 g0
  obtain ⟨z, e1, _⟩ := DataW.trod_bool Try.underlying4 g1
  obtain ⟨A, m, cc, e2, _⟩ := open_any Try.underlying22 g2
  simp at e0 e1 e2
  subst e0 e1 e2
  exact ⟨(s, z, A, m, cc), rfl⟩

set_option maxRecDepth 100000 in
theorem open_hypsT {fuel : Nat} {cs : List Value} {x : DataW H × List MemPlace} (hf : DataW.trod enc Try.prog W 0 (fun _ => true) true fuel 42 cs = some x) :
    ∃ (A : Option Addr) (n c : Nat) (ts : List HypT), cs = [.slice A n c] ∧ n ≤ c ∧ n ≤ maxLen ∧ Rd W W.heap.size 3 A n (ts.flatMap hypV) := by
  have hc3 : Try.prog.cellsOf 85 = 3 := by kernel_rfl
  rcases Go.Deep.open_slice Try.underlying42 hf with ⟨hcs, _⟩ | ⟨a, n, c, m, n', D, Pl, hcs, _, hl, hm, hmm, _, hi⟩
  · exact ⟨none, 0, 0, [], hcs, Nat.le_refl _, Nat.zero_le _, Rd.nil _ _ _ _⟩
  · rw [hc3] at hi
    have hmn : n ≤ m := by rw [hmm]; simpa using hl
    have step : ∀ k, k ≤ n → ∃ ts : List HypT, ts.length = k ∧ ∀ j u, (ts.flatMap hypV)[j]? = some u → W.cell? (a.add j) = some u := by
      intro k
      induction k with
      | zero => exact fun _ => ⟨[], rfl, fun j u hu => by simp at hu⟩
      | succ k ih =>
        intro hk
        obtain ⟨ts, hlen, hcell⟩ := ih (by omega)
        obtain ⟨cs', hcs', ht⟩ := hi k (by omega)
        obtain ⟨t, rfl⟩ := open_hyp ht
        obtain ⟨_, _, hat⟩ := World.cells?_some hcs'
        refine ⟨ts ++ [t], by simp [hlen], fun j u hu => ?_⟩
        have hfl : (ts.flatMap hypV).length = k * 3 := by rw [flat3_len' hypV (fun _ => rfl), hlen]
        rw [List.flatMap_append] at hu
        rcases Nat.lt_or_ge j (k * 3) with h1 | h1
        · rw [List.getElem?_append_left (by omega)] at hu
          exact hcell j u hu
        · rw [List.getElem?_append_right (by omega), hfl] at hu
          rw [show [t].flatMap hypV = hypV t by simp] at hu
          have hj2 : j - k * 3 < 3 := (List.getElem?_eq_some_iff.1 hu).1
          have := hat (j - k * 3) hj2
          rw [Go.Deep.add_add, show k * 3 + (j - k * 3) = j from by omega] at this
          rw [this]
          exact hu
    obtain ⟨ts, hlen, hcell⟩ := step n (Nat.le_refl _)
    exact ⟨_, n, c, ts, hcs, hl, by omega, rd_of (by rw [flat3_len' hypV (fun _ => rfl), hlen]) (by omega) hcell⟩

theorem eight_of {l : List Value} (h : l.length = 8) : ∃ a b c d e f g i, l = [a, b, c, d, e, f, g, i] := by
  match l, h with
  | [a, b, c, d, e, f, g, i], _ => exact ⟨a, b, c, d, e, f, g, i, rfl⟩
set_option maxRecDepth 100000 in
theorem frame_fields : ∃ f0 f1 f2 f3 f4 f5 f6 f7 : Field, Try.prog.underlying 45 = some (.struct #[f0, f1, f2, f3, f4, f5, f6, f7]) ∧ f0.type = 9 ∧ f1.type = 4 ∧ f2.type = 42 ∧ f3.type = 43 ∧ f4.type = 22 ∧ f5.type = 42 ∧ f6.type = 43 ∧ f7.type = 22 ∧ Go.Deep.oneCellFields Try.prog #[f0, f1, f2, f3, f4, f5, f6, f7] = true :=
  ⟨_, _, _, _, _, _, _, _, Try.underlying45, rfl, rfl, rfl, rfl, rfl, rfl, rfl, rfl, by kernel_rfl⟩

set_option maxRecDepth 100000 in
theorem open_frame {r : Reach} {b0 : Nat} {v : Value} {d : DataW H} {p : List MemPlace} (hok : Value.okWide Try.prog W r b0 45 v) (h : DataW.Trod enc Try.prog W 0 (fun _ => true) true 45 v d p) :
    ∃ (x0 : ByteArray) (x1 : Bool) (Hy A3 A4 A5 A6 A7 : Option Addr) (m hc n3 c3 n4 c4 n5 c5 n6 c6 n7 c7 : Nat) (hs : List HypT), v = .agg #[.string x0, .bool x1, .slice Hy m hc, .slice A3 n3 c3, .slice A4 n4 c4, .slice A5 n5 c5, .slice A6 n6 c6, .slice A7 n7 c7] ∧ m ≤ maxLen ∧ Rd W W.heap.size 3 Hy m (hs.flatMap hypV) := by
  obtain ⟨f0, f1, f2, f3, f4, f5, f6, f7, hu, h0, h1, h2, h3, h4, h5, h6, h7, hone⟩ := frame_fields
  obtain ⟨cs, rfl, hsz⟩ := okWide_struct hu hok
  obtain ⟨l⟩ := cs
  have hc8 : Try.prog.cellsOf 45 = 8 := by kernel_rfl
  obtain ⟨a, b, c, d, e, f, g, i, rfl⟩ := eight_of (hsz.trans hc8)
  obtain ⟨fuel, hf0⟩ := h
  obtain ⟨xs, n, _, _, _, hx, hf⟩ := DataW.trod_struct hu hf0
  have hx2 : xs.length = 8 := hx
  obtain ⟨o0, k0⟩ := Go.Deep.hone_of hone 0 f0 rfl
  obtain ⟨o1, k1⟩ := Go.Deep.hone_of hone 1 f1 rfl
  obtain ⟨o2, k2⟩ := Go.Deep.hone_of hone 2 f2 rfl
  obtain ⟨o3, k3⟩ := Go.Deep.hone_of hone 3 f3 rfl
  obtain ⟨o4, k4⟩ := Go.Deep.hone_of hone 4 f4 rfl
  obtain ⟨o5, k5⟩ := Go.Deep.hone_of hone 5 f5 rfl
  obtain ⟨o6, k6⟩ := Go.Deep.hone_of hone 6 f6 rfl
  obtain ⟨o7, k7⟩ := Go.Deep.hone_of hone 7 f7 rfl
  have g0 := hf 0 f0 rfl
  have g1 := hf 1 f1 rfl
  have g2 := hf 2 f2 rfl
  have g3 := hf 3 f3 rfl
  have g4 := hf 4 f4 rfl
  have g5 := hf 5 f5 rfl
  have g6 := hf 6 f6 rfl
  have g7 := hf 7 f7 rfl
  rw [o0, k0, h0, List.getElem?_eq_getElem (by omega)] at g0
  rw [o1, k1, h1, List.getElem?_eq_getElem (by omega)] at g1
  rw [o2, k2, h2, List.getElem?_eq_getElem (by omega)] at g2
  rw [o3, k3, h3, List.getElem?_eq_getElem (by omega)] at g3
  rw [o4, k4, h4, List.getElem?_eq_getElem (by omega)] at g4
  rw [o5, k5, h5, List.getElem?_eq_getElem (by omega)] at g5
  rw [o6, k6, h6, List.getElem?_eq_getElem (by omega)] at g6
  rw [o7, k7, h7, List.getElem?_eq_getElem (by omega)] at g7
  obtain ⟨s, e0, _⟩ := DataW.trod_string Try.underlying9 g0
  obtain ⟨z, e1, _⟩ := DataW.trod_bool Try.underlying4 g1
  obtain ⟨A2, m2, q2, hs, e2, _, hm, hr⟩ := open_hypsT g2
  obtain ⟨A3, m3, q3, e3, _⟩ := open_any Try.underlying43 g3
  obtain ⟨A4, m4, q4, e4, _⟩ := open_any Try.underlying22 g4
  obtain ⟨A5, m5, q5, e5, _⟩ := open_any Try.underlying42 g5
  obtain ⟨A6, m6, q6, e6, _⟩ := open_any Try.underlying43 g6
  obtain ⟨A7, m7, q7, e7, _⟩ := open_any Try.underlying22 g7
  simp [Value.cells] at e0 e1 e2 e3 e4 e5 e6 e7
  subst e0 e1 e2 e3 e4 e5 e6 e7
  exact ⟨s, z, A2, A3, A4, A5, A6, A7, m2, q2, m3, q3, m4, q4, m5, q5, m6, q6, m7, q7, hs, rfl, hm, hr⟩

set_option maxRecDepth 100000 in
theorem code_fields : ∃ f0 f1 : Field, Try.prog.underlying 25 = some (.struct #[f0, f1]) ∧ f0.type = 22 ∧ f1.type = 23 ∧ Go.Deep.oneCellFields Try.prog #[f0, f1] = true :=
  ⟨_, _, Try.underlying25, rfl, rfl, by kernel_rfl⟩
set_option maxRecDepth 100000 in
theorem open_code {r : Reach} {b0 : Nat} {v : Value} {d : DataW H} {p : List MemPlace} (hok : Value.okWide Try.prog W r b0 25 v) (h : DataW.Trod enc Try.prog W 0 (fun _ => true) true 25 v d p) :
    ∃ (A L : Option Addr) (nl cl n c : Nat) (lb : List ByteArray) (l : List Int), v = .agg #[.slice A nl cl, .slice L n c] ∧ nl ≤ cl ∧ nl ≤ maxLen ∧ n ≤ maxLen ∧ (∀ s ∈ lb, s.size ≤ maxLen) ∧ Rd W W.heap.size 1 A nl (lb.map Value.string) ∧ Rd W W.heap.size 1 L n (l.map (Value.int .i64)) := by
  obtain ⟨f0, f1, hu, h0, h1, hone⟩ := code_fields
  obtain ⟨cs, rfl, hsz⟩ := okWide_struct hu hok
  obtain ⟨l⟩ := cs
  have hc8 : Try.prog.cellsOf 25 = 2 := by kernel_rfl
  obtain ⟨a, b, rfl⟩ := two_of (hsz.trans hc8)
  obtain ⟨fuel, hf0⟩ := h
  obtain ⟨xs, n, _, _, _, hx, hf⟩ := DataW.trod_struct hu hf0
  have hx2 : xs.length = 2 := hx
  obtain ⟨o0, k0⟩ := Go.Deep.hone_of hone 0 f0 rfl
  obtain ⟨o1, k1⟩ := Go.Deep.hone_of hone 1 f1 rfl
  have g0 := hf 0 f0 rfl
  have g1 := hf 1 f1 rfl
  rw [o0, k0, h0, List.getElem?_eq_getElem (by omega)] at g0
  rw [o1, k1, h1, List.getElem?_eq_getElem (by omega)] at g1
  obtain ⟨A, nl, cl, lb, e0, hlc, hl, _, hs, hr⟩ := open_strsT g0
  obtain ⟨L, n, c, ll, e1, _, hn, _, hr1⟩ := open_intsT g1
  simp [Value.cells] at e0 e1
  subst e0 e1
  exact ⟨A, L, nl, cl, n, c, lb, ll, rfl, hlc, hl, hn, hs, hr, hr1⟩
end
end Go.Proofs.Ytbccmookfpcbgaa.Tok
