/- compress.Read: what it tells of any words. -/
import Derived.Test.YtjdomdeejibnmaaDivide
import Derived.Test.YtjdomdeejibnmaaNums
namespace Go.Proofs.Ytjdomdeejibnmaa.Tok
open Go.RowKit Go.Proofs.Ytjdomdeejibnmaa

theorem results_row_tmp8 {P : Program} {fn : Func} {p u : Tmp} {ty : TypeId} (h : fn.results = #[.cell p ty, .tmp u]) (tmps : Array Value) (w : World) (g : Nat) (t : TypeId) (cs : Array Value) (fr : Nat × Nat) (d : TypeDesc)
    (hp : tmps.getD p undef = .pointer (some ⟨g, 0, none⟩)) (hg : w.heap[g]? = some (.cells cs t fr))
    (hu : P.underlying ty = some d) (hd : (match d with | .struct _ | .array _ _ => true | _ => false) = true) (hi : (P.info? ty).map (·.size) = some cs.size) :
    (results fn tmps).run P w = .ok (.tuple #[.agg cs, tmps.getD u undef]) w := by
  have hp' : tmps[p]?.getD undef = .pointer (some ⟨g, 0, none⟩) := by simpa using hp
  simp [results, h, hp', asAddr, run_loadVar_row w g t ty cs fr d hg hu hd hi, Result.andThen]
/-- The code of some words, or its error. -/
def RdIs (ss : List ByteArray) (ls : List ByteArray) (o : List Int) (er : Nat) : Prop :=
  (DivIs ss none ∧ er = 20 ∧ ls = [] ∧ o = []) ∨ ∃ ls' bs, DivIs ss (some (ls', bs)) ∧
    ((40000 < bs.length ∧ er = 4 ∧ ls = [] ∧ o = []) ∨ (bs.length ≤ 40000 ∧ ((∃ o' a, numsF bs 0 0 0 = (o', some a) ∧ er = 21 ∧ ls = [] ∧ o = []) ∨ (numsF bs 0 0 0 = (o, none) ∧ er = 0 ∧ ls = ls'))))
def ReadGood (ss : List ByteArray) (w : World) (e : Ending) (w' : World) : Prop :=
  ∃ (ls : List ByteArray) (o : List Int) (er : Nat) (v v2 : Value), RdIs ss ls o er ∧ e = .returned (.tuple #[.agg #[v, v2], .int .i64 (er : Nat)]) ∧ w'.ownsRow w.heap.size 9 1 v ls.length (ls.map Value.string) ∧ w'.ownsRow w.heap.size 3 1 v2 o.length (o.map (Value.int .i64)) ∧ Below w.heap.size w w'
theorem sizeCode : (Try.prog.info? 25).map (·.size) = some 2 := by kernel_rfl
theorem setRow_below8 {w w1 : World} {B g : Nat} (h : Below B w w1) (hg : B ≤ g) (cs : Array Value) : Below B w (w1.setRow g cs) :=
  h.trans ⟨rfl, rfl, rfl, by simp, fun i hi => setRow_other _ _ _ _ (by omega)⟩
theorem own_one8 {w : World} {b e n : Nat} {v : Value} {xs : List Value} (h : w.ownsRow b e 1 v n xs) : v.oneCell' = true := by
  rcases h.2 with ⟨rfl, _⟩ | ⟨g, cap, cur, rfl, _⟩ <;> rfl
theorem own_row8 {w : World} {b e n g : Nat} {v : Value} {xs : List Value} {cs cs' : Array Value} {T : TypeId} (h : w.ownsRow b e 1 v n xs) (hg : w.heap[g]? = some (.cells cs T (0, 0))) (hne : e ≠ T) : (w.setRow g cs').ownsRow b e 1 v n xs := by
  refine ⟨h.1, h.2.imp id fun ⟨q, cap, cur, h1, h2, h3, h4⟩ => ⟨q, cap, cur, h1, h2, (setRow_other _ _ _ _ fun e' => ?_).trans h3, h4⟩⟩
  subst e'
  rw [hg] at h3
  injection h3 with h3
  injection h3 with _ h3
  exact hne h3.symm
set_option maxHeartbeats 1600000 in
set_option maxRecDepth 8000 in
theorem read_any (A : Option Addr) (n c : Nat) (ss : List ByteArray) (w : World) (hn : n ≤ 1000000) (hnc : n ≤ c) (hz : sumSz ss ≤ 1048576) (hr : Rd w w.heap.size 1 A n (ss.map Value.string)) :
    Calls Try.prog 8 #[.slice A n c] w (ReadGood ss w) := by
  have HD : Hid (∀ o, Calls Try.prog 22 #[.slice A n c] (w.alloc o) (DivGood ss (w.alloc o))) := fun o => by
    have hb : Below w.heap.size w (w.alloc o) := (Below.refl _ _).alloc (Nat.le_refl _) o
    exact divide_any A n c ss _ hn hnc hz ((hr.below hb).more hb.size)
  clear hr hz hnc hn
  go_enter Try.func8, Try.ntmps8
  go_wp2_with fail
  have hrow0 := heap_alloc_new w (.cells #[.slice none 0 0, .slice none 0 0] 25)
  have hb0 : Below w.heap.size w (w.alloc (.cells #[.slice none 0 0, .slice none 0 0] 25)) := (Below.refl _ _).alloc (Nat.le_refl _) _
  refine (HD.out _).mono ?_
  rintro e w1 ⟨hd, hb1⟩
  have Hrow := Lib.hid ((hb1.block w.heap.size (by simp)).trans hrow0)
  have Hb := Lib.hid (hb0.trans (hb1.mono (by simp)))
  clear hrow0 hb0 hb1
  rcases hd with ⟨hd, rfl⟩ | ⟨ls, bs, v, hd, rfl, hv⟩
  · have HD2 := Lib.hid hd
    clear hd
    go_wp2_with (refine wpList_store_row rfl 25 (.tmp 2) (.tmp 17) rfl w.heap.size #[.slice none 0 0, .slice none 0 0] rfl rfl 25 #[.slice none 0 0, .slice none 0 0] Hrow.out sizeCode rfl (by simp [Value.oneCell']) ?_)
    (try simp only [Exit.inBlock, Exit.then])
    refine bodyPost_ret (results_row_tmp8 rfl _ _ w.heap.size 25 #[.slice none 0 0, .slice none 0 0] (0, 0) _ rfl (setRow_heap _ _ _ _ _ _ Hrow.out) Try.underlying25 rfl sizeCode) rfl ?_
    exact ⟨[], [], 20, _, _, .inl ⟨HD2.out, rfl, rfl, rfl⟩, rfl, World.ownsRow_nil _ _ _ _, World.ownsRow_nil _ _ _ _, setRow_below8 Hb.out (Nat.le_refl _) _⟩
  · have HD2 := Lib.hid hd
    have Hv := Lib.hid hv
    clear hd hv
    go_wp2_with fail
    refine (numbers_any ⟨bs.toArray⟩ w1).mono ?_
    rintro e w2 ⟨A2, c2, o, a, er, rfl, hn, ho, hb2⟩
    have Hrow2 := Lib.hid ((hb2.block w.heap.size (Array.getElem?_eq_some_iff.1 Hrow.out).1).trans Hrow.out)
    have Hb2 := Lib.hid (Hb.out.trans (hb2.mono Hb.out.size))
    have Hn := Lib.hid hn
    have Hv2 := Lib.hid (own_base8 (own_below Hv.out hb2) (by simp : w.heap.size ≤ (w.alloc (.cells #[.slice none 0 0, .slice none 0 0] 25)).heap.size))
    have Ho := Lib.hid (own_base8 ho Hb.out.size)
    clear hn ho hb2
    by_cases her : er = 0
    · subst her
      have HI : Hid (RdIs ss ls o 0) := by
        rcases Hn.out with ⟨_, _, _, h⟩ | ⟨h1, ⟨_, _, _, h⟩ | ⟨h2, _, _⟩⟩
        · omega
        · omega
        · exact .inr ⟨ls, bs, HD2.out, .inr ⟨by simpa [ByteArray.size] using h1, .inr ⟨by simpa using h2, rfl, rfl⟩⟩⟩
      obtain ⟨A3, c3, hv3⟩ : ∃ A c, v = .slice A ls.length c := by
        rcases Hv2.out.2 with ⟨h1, h2⟩ | ⟨g, cap, cur, h1, _⟩
        · exact ⟨none, 0, by rw [h1, h2]⟩
        · exact ⟨_, _, h1⟩
      subst hv3
      go_wp2_with (refine wpList_store_row rfl 25 (.tmp 2) (.tmp 31) rfl w.heap.size #[.slice A3 ls.length c3, .slice A2 o.length c2] rfl rfl 25 #[.slice none 0 0, .slice none 0 0] Hrow2.out sizeCode rfl (by simp [Value.oneCell']) ?_)
      (try simp only [Exit.inBlock, Exit.then])
      refine bodyPost_ret (results_row_tmp8 rfl _ _ w.heap.size 25 #[.slice A3 ls.length c3, .slice A2 o.length c2] (0, 0) _ rfl (setRow_heap _ _ _ _ _ _ Hrow2.out) Try.underlying25 rfl sizeCode) rfl ?_
      exact ⟨ls, o, 0, _, _, HI.out, rfl, own_row8 Hv2.out Hrow2.out (by decide), own_row8 Ho.out Hrow2.out (by decide), setRow_below8 Hb2.out (Nat.le_refl _) _⟩
    · have HI : Hid (RdIs ss [] [] er) := by
        rcases Hn.out with ⟨h0, _, _, h⟩ | ⟨h1, ⟨o', h2, _, h⟩ | ⟨_, _, h⟩⟩
        · exact .inr ⟨ls, bs, HD2.out, .inl ⟨by simpa [ByteArray.size] using h0, h, rfl, rfl⟩⟩
        · exact .inr ⟨ls, bs, HD2.out, .inr ⟨by simpa [ByteArray.size] using h1, .inl ⟨o', a, by simpa using h2, h, rfl, rfl⟩⟩⟩
        · exact absurd h her
      have g1 : ((er : Int) == 0) = false := by rw [beq_eq_false_iff_ne]; omega
      have g2 : (er == 0) = false := by rw [beq_eq_false_iff_ne]; omega
      clear her
      go_wp2_with (refine wpList_store_row rfl 25 (.tmp 2) (.tmp 27) rfl w.heap.size #[.slice none 0 0, .slice none 0 0] rfl rfl 25 #[.slice none 0 0, .slice none 0 0] Hrow2.out sizeCode rfl (by simp [Value.oneCell']) ?_)
      (try simp only [Exit.inBlock, Exit.then])
      refine bodyPost_ret (results_row_tmp8 rfl _ _ w.heap.size 25 #[.slice none 0 0, .slice none 0 0] (0, 0) _ rfl (setRow_heap _ _ _ _ _ _ Hrow2.out) Try.underlying25 rfl sizeCode) rfl ?_
      exact ⟨[], [], er, _, _, HI.out, rfl, World.ownsRow_nil _ _ _ _, World.ownsRow_nil _ _ _ _, setRow_below8 Hb2.out (Nat.le_refl _) _⟩
end Go.Proofs.Ytjdomdeejibnmaa.Tok
