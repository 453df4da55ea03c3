/- Contracts of what tells keywords. -/
import Derived.Test.YtflfeimmdpjbeaaTexts
import Derived.Lib.ConvBytes
import Derived.Laws.Cover3
import Derived.Laws.StructEq
namespace Go.Proofs.Ytflfeimmdpjbeaa.Tok
open Go.RowKit Go.Proofs.Ytflfeimmdpjbeaa

/-- The second byte of keyword k. -/
def kwN (k : Nat) : Nat := [99, 118, 102, 101, 100, 97, 112, 46, 61, 123, 125, 40, 41, 91, 93].getD k 0
def kwS (k : Nat) : ByteArray := ⟨#[36, UInt8.ofNat (kwN k)]⟩
def kwA : Array Value := ((List.range 15).flatMap fun k => [Value.int .u8 36, Value.int .u8 (kwN k : Nat)]).toArray
def kwL : List Value := (List.range 15).map fun k => Value.string (kwS k)
def isKw (s : ByteArray) : Bool := (List.range 15).any fun k => (kwS k).toList == s.toList

theorem build_to {P : Program} {ops : Array Oper} {rest : List Oper} {o : Oper} {a : Act} {w : World} {Q : Exit → Act → World → Prop} (hg : o.guard = none) (t : TypeId) (parts : Array (Nat × Operand)) (ho : o.op = .build t parts)
    (cells : Array Value) (hc : P.built t (parts.map fun (i, x) => (i, a.eval x)).toList = some cells) (h : wpList P ops Q rest (a.put o.dst (.agg cells)) w) : wpList P ops Q (o :: rest) a w :=
  wpList_build hg t parts ho (by rw [hc]; rfl) (by rw [hc]; exact h)
theorem size112 : (Try.prog.info? 112).map (·.size) = some 30 := by kernel_rfl
theorem kwA_size : kwA.size = 30 := by kernel_rfl
theorem kwA_one : kwA.all (·.oneCell') = true := by kernel_rfl

theorem keywords_any (w : World) :
    Calls Try.prog 66 #[] w fun e w' => e = .returned (.agg kwA) ∧ Below w.heap.size w w' := by
  go_enter Try.func66, Try.ntmps66
  go_wp2_with (first
    | (refine build_to rfl 112 _ rfl kwA (by kernel_rfl) ?_)
    | (refine wpList_store_row rfl 112 (.tmp 0) (.tmp 16) rfl w.heap.size kwA rfl rfl 112 _ (heap_alloc_new _ _) size112 (by rw [kwA_size]; rfl) kwA_one ?_))
  refine bodyPost_ret (v := .agg kwA) (results_cell_row rfl _ _ w.heap.size 112 kwA (0, 0) _ rfl (setRow_heap _ _ _ _ _ _ (heap_alloc_new _ _)) Try.underlying112 rfl size112) rfl ⟨rfl, ?_⟩
  exact ((Below.refl _ _).alloc (Nat.le_refl _) _).trans ⟨rfl, rfl, rfl, by simp, fun i hi => setRow_other _ _ _ _ (by omega)⟩

theorem rkeywords_any (w : World) :
    Calls Try.prog 33 #[] w fun e w' => ∃ v, e = .returned v ∧ w'.ownsRow w.heap.size 9 1 v 15 kwL ∧ Below w.heap.size w w' := by
  go_enter Try.func33, Try.ntmps33
  go_wp2
  go_ret
  refine ⟨_, rfl, ?_, (Below.refl _ _).alloc (Nat.le_refl _) _⟩
  exact World.ownsRow_lit w _ 15 (Nat.le_refl _) (by simp [maxLen]) rfl

theorem conv2 (s : ByteArray) (h : s.size = 2) (w : World) : ∃ W1 cp, (convert 9 111 (.string s)).run Try.prog w = .ok (.slice (some ⟨w.heap.size, 0, none⟩) 2 cp) W1 ∧ w.heap.size < W1.heap.size ∧ Below w.heap.size w W1 ∧
    W1.cell? ⟨w.heap.size, 0, none⟩ = some (.int .u8 ((s.data.toList.getD 0 0).toNat : Nat)) ∧ W1.cell? ⟨w.heap.size, 1, none⟩ = some (.int .u8 ((s.data.toList.getD 1 0).toNat : Nat)) := by
  refine ⟨Lib.bytesWorld w 5 s, _, by rw [← h]; exact Lib.run_convert_string_bytes w _ _ _ s Try.underlying9 Try.underlying111 Try.underlying5, by rw [Lib.bytesWorld_size]; omega, ?_, Lib.bytesWorld_cell w _ s 0 (by omega), Lib.bytesWorld_cell w _ s 1 (by omega)⟩
  exact ⟨rfl, rfl, rfl, by rw [Lib.bytesWorld_size]; omega, fun k hk => Lib.bytesWorld_at_old _ _ _ _ hk⟩

theorem eqPair (a b c d : Int) (w : World) : (Op.equalIn 10000 110 (.agg #[.int .u8 a, .int .u8 b]) (.agg #[.int .u8 c, .int .u8 d])).run Try.prog w = .ok (a == c && b == d) w := by
  have u3 := Try.underlying5
  have a3 := Try.isAgg5
  have z3 := Try.sizeOf5
  rw [show (10000 : Nat) = 9999 + 1 from rfl, Op.equalIn]
  simp only [Sem.run_bind, run_underlying Try.underlying110, Result.andThen_ok]
  simp only [Std.Legacy.Range.forIn_eq_forIn_range', Std.Legacy.Range.size, Nat.sub_zero, Nat.add_sub_cancel, Nat.div_one, List.range'_succ, List.range'_zero, List.forIn_cons, List.forIn_nil]
  go_simp
  by_cases h1 : a = c <;> by_cases h2 : b = d <;> simp [h1, h2]
theorem kwi0 (w : World) : (Instr.index 112 (.agg kwA) (.int .i64 0)).run Try.prog w = .ok (.agg #[.int .u8 36, .int .u8 (kwN 0 : Nat)]) w := by kernel_rfl
theorem kwi1 (w : World) : (Instr.index 112 (.agg kwA) (.int .i64 1)).run Try.prog w = .ok (.agg #[.int .u8 36, .int .u8 (kwN 1 : Nat)]) w := by kernel_rfl
theorem kwi2 (w : World) : (Instr.index 112 (.agg kwA) (.int .i64 2)).run Try.prog w = .ok (.agg #[.int .u8 36, .int .u8 (kwN 2 : Nat)]) w := by kernel_rfl
theorem kwi3 (w : World) : (Instr.index 112 (.agg kwA) (.int .i64 3)).run Try.prog w = .ok (.agg #[.int .u8 36, .int .u8 (kwN 3 : Nat)]) w := by kernel_rfl
theorem kwi4 (w : World) : (Instr.index 112 (.agg kwA) (.int .i64 4)).run Try.prog w = .ok (.agg #[.int .u8 36, .int .u8 (kwN 4 : Nat)]) w := by kernel_rfl
theorem kwi5 (w : World) : (Instr.index 112 (.agg kwA) (.int .i64 5)).run Try.prog w = .ok (.agg #[.int .u8 36, .int .u8 (kwN 5 : Nat)]) w := by kernel_rfl
theorem kwi6 (w : World) : (Instr.index 112 (.agg kwA) (.int .i64 6)).run Try.prog w = .ok (.agg #[.int .u8 36, .int .u8 (kwN 6 : Nat)]) w := by kernel_rfl
theorem kwi7 (w : World) : (Instr.index 112 (.agg kwA) (.int .i64 7)).run Try.prog w = .ok (.agg #[.int .u8 36, .int .u8 (kwN 7 : Nat)]) w := by kernel_rfl
theorem kwi8 (w : World) : (Instr.index 112 (.agg kwA) (.int .i64 8)).run Try.prog w = .ok (.agg #[.int .u8 36, .int .u8 (kwN 8 : Nat)]) w := by kernel_rfl
theorem kwi9 (w : World) : (Instr.index 112 (.agg kwA) (.int .i64 9)).run Try.prog w = .ok (.agg #[.int .u8 36, .int .u8 (kwN 9 : Nat)]) w := by kernel_rfl
theorem kwi10 (w : World) : (Instr.index 112 (.agg kwA) (.int .i64 10)).run Try.prog w = .ok (.agg #[.int .u8 36, .int .u8 (kwN 10 : Nat)]) w := by kernel_rfl
theorem kwi11 (w : World) : (Instr.index 112 (.agg kwA) (.int .i64 11)).run Try.prog w = .ok (.agg #[.int .u8 36, .int .u8 (kwN 11 : Nat)]) w := by kernel_rfl
theorem kwi12 (w : World) : (Instr.index 112 (.agg kwA) (.int .i64 12)).run Try.prog w = .ok (.agg #[.int .u8 36, .int .u8 (kwN 12 : Nat)]) w := by kernel_rfl
theorem kwi13 (w : World) : (Instr.index 112 (.agg kwA) (.int .i64 13)).run Try.prog w = .ok (.agg #[.int .u8 36, .int .u8 (kwN 13 : Nat)]) w := by kernel_rfl
theorem kwi14 (w : World) : (Instr.index 112 (.agg kwA) (.int .i64 14)).run Try.prog w = .ok (.agg #[.int .u8 36, .int .u8 (kwN 14 : Nat)]) w := by kernel_rfl
theorem kwIndex (k : Nat) (h : k < 15) (w : World) : (Instr.index 112 (.agg kwA) (.int .i64 (k : Nat))).run Try.prog w = .ok (.agg #[.int .u8 36, .int .u8 (kwN k : Nat)]) w := by
  match k, h with
  | 0, _ => exact kwi0 w
  | 1, _ => exact kwi1 w
  | 2, _ => exact kwi2 w
  | 3, _ => exact kwi3 w
  | 4, _ => exact kwi4 w
  | 5, _ => exact kwi5 w
  | 6, _ => exact kwi6 w
  | 7, _ => exact kwi7 w
  | 8, _ => exact kwi8 w
  | 9, _ => exact kwi9 w
  | 10, _ => exact kwi10 w
  | 11, _ => exact kwi11 w
  | 12, _ => exact kwi12 w
  | 13, _ => exact kwi13 w
  | 14, _ => exact kwi14 w

theorem kwS_eq (s : ByteArray) (h : s.size = 2) (k : Nat) (hk : kwN k < 256) : ((kwS k).toList == s.toList) = ((((s.data.toList.getD 0 0).toNat : Nat) : Int) == 36 && (((s.data.toList.getD 1 0).toNat : Nat) : Int) == ((kwN k : Nat) : Int)) := by
  rw [ByteArray.toList_eq, ByteArray.toList_eq]
  have hl : s.data.toList.length = 2 := by simpa using h
  generalize s.data.toList = l at hl
  match l, hl with
  | [a, b], _ =>
    have e : (kwS k).data.toList = [36, UInt8.ofNat (kwN k)] := rfl
    rw [e]
    have hb : (UInt8.ofNat (kwN k)).toNat = kwN k := by simp; omega
    rw [Bool.eq_iff_iff]
    simp only [List.getD_cons_zero, List.getD_cons_succ, Bool.and_eq_true, beq_iff_eq, List.cons.injEq, and_true]
    constructor
    · rintro ⟨h1, h2⟩
      subst h1 h2
      exact ⟨rfl, by rw [hb]⟩
    · rintro ⟨h1, h2⟩
      refine ⟨UInt8.toNat.inj ?_, UInt8.toNat.inj ?_⟩
      · have : (36 : UInt8).toNat = 36 := rfl
        omega
      · omega
theorem kwN_lt (k : Nat) (h : k < 15) : kwN k < 256 := by
  match k, h with
  | 0, _ => decide
  | 1, _ => decide
  | 2, _ => decide
  | 3, _ => decide
  | 4, _ => decide
  | 5, _ => decide
  | 6, _ => decide
  | 7, _ => decide
  | 8, _ => decide
  | 9, _ => decide
  | 10, _ => decide
  | 11, _ => decide
  | 12, _ => decide
  | 13, _ => decide
  | 14, _ => decide

set_option maxRecDepth 20000 in
theorem isKw2 (s : ByteArray) (h : s.size = 2) (w : World) :
    Calls Try.prog 24 #[.string s] w fun e w' => e = .returned (.bool (isKw s)) ∧ Below w.heap.size w w' := by
  have hn : ((s.size : Int) != 2) = false := by rw [h]; rfl
  obtain ⟨W1, cp, hcv, hsz1, hb1, hc0, hc1⟩ := conv2 s h w
  have hat : ∀ W : World, (Instr.arrayAt 110 (.slice (some ⟨w.heap.size, 0, none⟩) 2 cp)).run Try.prog W = .ok (.pointer (some ⟨w.heap.size, 0, none⟩)) W := fun W => run_arrayAt W 110 5 2 _ 2 cp Try.underlying110 (Nat.le_refl _)
  have heq := eqPair
  have H := Lib.hid h
  clear h
  obtain ⟨x, hx⟩ : ∃ x, x = (s.data.toList.getD 0 0).toNat := ⟨_, rfl⟩
  obtain ⟨y, hy⟩ : ∃ y, y = (s.data.toList.getD 1 0).toNat := ⟨_, rfl⟩
  rw [← hx] at hc0
  rw [← hy] at hc1
  have Hx := Lib.hid hx
  have Hy := Lib.hid hy
  clear hx hy
  go_enter Try.func24, Try.ntmps24
  go_wp2_with (go_at_call 66; refine (keywords_any _).mono ?_; rintro e w2 ⟨rfl, hb2⟩)
  have hB2 : Below w.heap.size w w2 := (hb1.alloc (by omega) _).trans (hb2.mono (by simp; omega))
  have hz2 : W1.heap.size + 1 ≤ w2.heap.size := by have := hb2.size; simpa using this
  have hx0 : w2.cell? ⟨W1.heap.size, 0, none⟩ = some (.int .u8 (x : Nat)) := (hb2.cell (p := ⟨W1.heap.size, 0, none⟩) (by simp)).trans (by simp)
  have hx1 : w2.cell? ⟨W1.heap.size, 1, none⟩ = some (.int .u8 (y : Nat)) := (hb2.cell (p := ⟨W1.heap.size, 1, none⟩) (by simp)).trans (by simp)
  go_loopw [14] (fun i wr => ∃ k : Nat, k ≤ 15 ∧ i = .int .i64 k ∧ (∀ j, j < k → ((kwS j).toList == s.toList) = false) ∧ Below w2.heap.size w2 wr) (fun i _ => 15 - (intOf i).toNat)
  case atStart => exact ⟨0, by omega, rfl, fun j hj => absurd hj (by omega), Below.refl _ _⟩
  case round =>
    obtain ⟨k, hk, rfl, hno, hbr⟩ := hrel
    have Hno := Lib.hid hno
    clear hno
    by_cases hlt : k < 15
    · have hix := kwIndex k hlt
      have hy0 : wr.cell? ⟨W1.heap.size, 0, none⟩ = some (.int .u8 (x : Nat)) := (hbr.cell (p := ⟨W1.heap.size, 0, none⟩) (by simp; omega)).trans hx0
      have hy1 : wr.cell? ⟨W1.heap.size, 1, none⟩ = some (.int .u8 (y : Nat)) := (hbr.cell (p := ⟨W1.heap.size, 1, none⟩) (by simp; omega)).trans hx1
      have hlt2 : W1.heap.size < wr.heap.size := by have := hbr.size; omega
      have hke := kwS_eq s H.out k (kwN_lt k hlt)
      rw [← Hx.out, ← Hy.out] at hke
      obtain ⟨z, hz⟩ : ∃ z, z = kwN k := ⟨_, rfl⟩
      rw [← hz] at hix hke
      clear hz
      cases hm : ((x : Int) == 36 && (y : Int) == (z : Int))
      · rw [hm] at hke
        have Hke := Lib.hid hke
        clear hke
        go_wp2
        go_light
        refine ⟨⟨k + 1, by omega, by go_num, fun j hj => ?_, hbr.alloc (by have := hbr.size; omega) _⟩, by simp [intOf]; omega⟩
        rcases Nat.lt_or_ge j k with h1 | h1
        · exact Hno.out j h1
        · obtain rfl : j = k := by omega
          exact Hke.out
      · rw [hm] at hke
        have Hke := Lib.hid hke
        clear hke
        go_wp2
        go_ret
        refine ⟨retb ?_, (hB2.trans (hbr.mono (by have := hB2.size; omega))).alloc (by have := hB2.size; have := hbr.size; omega) _⟩
        unfold isKw
        rw [eq_comm, List.any_eq_true]
        exact ⟨k, by simpa using hlt, Hke.out⟩
    · obtain rfl : k = 15 := by omega
      go_wp2
      go_ret
      refine ⟨retb ?_, hB2.trans (hbr.mono (by have := hB2.size; omega))⟩
      unfold isKw
      rw [eq_comm, List.any_eq_false]
      intro j hj
      rw [Hno.out j (by simpa using hj)]
      simp

theorem isKw_size (s : ByteArray) (h : s.size ≠ 2) : isKw s = false := by
  unfold isKw
  rw [List.any_eq_false]
  intro j _
  rw [ByteArray.toList_eq, ByteArray.toList_eq, beq_iff_eq]
  intro e
  have := congrArg List.length e
  exact h ((show s.size = (kwS j).size by simpa using this.symm).trans rfl)

theorem isKeyword_any (s : ByteArray) (_hs : s.size ≤ 281474976710656) (w : World) :
    Calls Try.prog 24 #[.string s] w fun e w' => e = .returned (.bool (isKw s)) ∧ Below w.heap.size w w' := by
  by_cases h : s.size = 2
  · exact isKw2 s h w
  · have hn : ((s.size : Int) != 2) = true := by rw [bne_iff_ne]; omega
    have H := Lib.hid (isKw_size s h)
    clear h
    go_enter Try.func24, Try.ntmps24
    go_wp2
    go_ret
    exact ⟨retb H.out.symm, Below.refl _ _⟩

theorem kwL_get (k : Nat) (h : k < 15) : kwL[k]? = some (.string (kwS k)) := by
  unfold kwL
  simp [h]

theorem rIsKeyword_any (s : ByteArray) (_hs : s.size ≤ 281474976710656) (w : World) :
    Calls Try.prog 25 #[.string s] w fun e w' => e = .returned (.bool (isKw s)) ∧ Below w.heap.size w w' := by
  go_enter Try.func25, Try.ntmps25
  go_wp2_with (go_at_call 33; refine (rkeywords_any _).mono ?_; rintro e w1 ⟨v, rfl, hown, hb⟩)
  obtain ⟨g, cap, cur, rfl, hbg, hh, _⟩ : ∃ g cap cur, v = .slice (some ⟨g, 0, none⟩) 15 cap ∧ w.heap.size ≤ g ∧ w1.heap[g]? = some (.cells cur 9 (0, 0)) ∧ True := by
    rcases hown.2 with ⟨_, h⟩ | ⟨g, cap, cur, h1, h2, h3, _⟩
    · omega
    · exact ⟨g, cap, cur, h1, h2, h3, trivial⟩
  have Hown := Lib.hid hown
  have Hb := Lib.hid hb
  clear hown hb hh hbg
  go_loopw [4] (fun i wr => ∃ k : Nat, k ≤ 15 ∧ i = .int .i64 k ∧ (∀ j, j < k → ((kwS j).toList == s.toList) = false) ∧ w1 = wr) (fun i _ => 15 - (intOf i).toNat)
  case atStart => exact ⟨0, by omega, rfl, fun j hj => absurd hj (by omega), rfl⟩
  case round =>
    obtain ⟨k, hk, rfl, hno, rfl⟩ := hrel
    have Hno := Lib.hid hno
    clear hno
    by_cases hlt : k < 15
    · have hcell := Hown.out.cells (g := g) rfl _ _ (kwL_get k hlt)
      rw [add_zero_block] at hcell
      obtain ⟨z, hz⟩ : ∃ z, z = kwS k := ⟨_, rfl⟩
      rw [← hz] at hcell
      have Hz := Lib.hid hz
      clear hz
      cases hm : (z.toList == s.toList)
      · have Hm := Lib.hid hm
        go_wp2
        go_light
        refine ⟨⟨k + 1, by omega, by go_num, fun j hj => ?_, trivial⟩, by simp [intOf]; omega⟩
        rcases Nat.lt_or_ge j k with h1 | h1
        · exact Hno.out j h1
        · obtain rfl : j = k := by omega
          rw [← Hz.out]
          exact Hm.out
      · have Hm := Lib.hid hm
        go_wp2
        go_ret
        refine ⟨retb ?_, Hb.out⟩
        unfold isKw
        rw [eq_comm, List.any_eq_true]
        exact ⟨k, by simpa using hlt, by rw [← Hz.out]; exact Hm.out⟩
    · obtain rfl : k = 15 := by omega
      go_wp2
      go_ret
      refine ⟨retb ?_, Hb.out⟩
      unfold isKw
      rw [eq_comm, List.any_eq_false]
      intro j hj
      rw [Hno.out j (by simpa using hj)]
      simp
end Go.Proofs.Ytflfeimmdpjbeaa.Tok
