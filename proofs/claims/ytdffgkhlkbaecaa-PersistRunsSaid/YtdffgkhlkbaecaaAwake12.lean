/- The chapter's examples hold. -/
import Derived.Test.YtdffgkhlkbaecaaTreeAt
import Derived.Test.YtdffgkhlkbaecaaUnion
namespace Go.Proofs.Ytdffgkhlkbaecaa.Tok
open Go.RowKit Go.Proofs.Ytdffgkhlkbaecaa

/-- A whole row loaded under a guard that is met. -/
theorem wpList_load_row_g' {P : Program} {ops : Array Oper} {rest : List Oper} {o : Oper} {a : Act} {w : World} {Q : Exit → Act → World → Prop} (hw : Region.wanted o (yielded ops a.tmps) = true) (ty : TypeId) (x : Operand) (ho : o.op = .load ty x)
    (g : Nat) (hx : a.eval x = .pointer (some ⟨g, 0, none⟩)) (t : TypeId) (cs : Array Value) (fr : Nat × Nat) (d : TypeDesc) (hg : w.heap[g]? = some (.cells cs t fr))
    (hu : P.underlying ty = some d) (hd : (match d with | .struct _ | .array _ _ => true | _ => false) = true) (hi : (P.info? ty).map (·.size) = some cs.size)
    (h : wpList P ops Q rest (a.put o.dst (.agg cs)) w) : wpList P ops Q (o :: rest) a w :=
  wpList_step fun K hK => by
    rw [if_pos hw]
    exact wp_load_row ty x ho g hx t cs fr d hg hu hd hi (hK _ _ h)

def exB : ByteArray := ⟨#[98]⟩
def exA : ByteArray := ⟨#[97]⟩
theorem ex_ba : cmpS exB exA = 1 := by decide +kernel
theorem ex_ab : cmpS exA exB = -1 := by decide +kernel
theorem ex_bb : cmpS exB exB = 0 := by decide +kernel
theorem ex_put1 : Tr.join (Tr.split (cmpS exB) .nil).1 exB 2 (Tr.split (cmpS exB) .nil).2 = .node exB 2 .nil .nil := rfl
theorem ex_put2 : Tr.join (Tr.split (cmpS exA) (.node exB 2 .nil .nil)).1 exA 1 (Tr.split (cmpS exA) (.node exB 2 .nil .nil)).2 = .node exA 1 .nil (.node exB 2 .nil .nil) := by
  rw [Tr.split_lt (by rw [ex_ab]; decide)]
  show Tr.join .nil exA 1 (Tr.join .nil exB 2 .nil) = _
  rw [show Tr.join .nil exB 2 .nil = .node exB 2 .nil .nil from rfl, Tr.join_mid (by simp [Tr.height]) (by simp [Tr.height])]
theorem ex_at : (Tr.node exA 1 .nil (.node exB 2 .nil .nil)).nth 0 = some (exA, 1) := rfl
theorem ex_rank : (Tr.node exA 1 .nil (.node exB 2 .nil .nil)).rank (cmpS exB) = 1 := by
  simp [Tr.rank, ex_ba, ex_bb, Tr.size]
theorem ex_find : findV (uni (ones 4) 3 1) 3 = .tuple #[.int .i64 1, .int .i64 0] := by
  unfold findV
  have h1 : (uni (ones 4) 3 1) = [(0, 1, 0), (3, 1, 1), (2, 1, 2), (3, 2, 1)] := by decide +kernel
  rw [h1, if_pos (by decide)]
  have h2 : root [(0, 1, 0), (3, 1, 1), (2, 1, 2), (3, 2, 1)] (Int.toNat 3) = 3 := root_self (by decide) rfl
  rw [h2]
  rfl
theorem ones4 : ones 4 = [(0, 1, 0), (1, 1, 1), (2, 1, 2), (3, 1, 3)] := rfl
theorem ex_root (a : Nat) (h : a < 4) : root (ones 4) a = a := root_self (by rw [ones_len]; exact h) (by rw [ones_get])

set_option maxHeartbeats 3200000 in
set_option maxRecDepth 8000 in
theorem awake12_any (w : World) : Calls Try.prog 6 #[] w fun e w' => e = .returned (.bool true) ∧ Below w.heap.size w w' := by
  have ta : (exA.toList == [97]) = true := by decide +kernel
  go_enter Try.func6, Try.ntmps6
  go_wp2_with fail
  refine (putT_any none .nil exB 2 _ rfl (by simp [Tr.size])).mono ?_
  rintro e w1 ⟨p1, rfl, h1, hb1⟩
  rw [ex_put1] at h1
  have hrow0 : (w.alloc (.cells #[.pointer none] 27)).heap[w.heap.size]? = some (.cells #[.pointer none] 27 (0, 0)) := heap_alloc_new w _
  have hrow1 := (hb1.block w.heap.size (by simp)).trans hrow0
  have hbe1 : Below w.heap.size w w1 := ((Below.refl _ _).alloc (Nat.le_refl _) _).trans (hb1.mono (by simp))
  have hz1 : w.heap.size + 1 ≤ w1.heap.size := by have := hb1.size; simp at this; omega
  have Hrow1 := Lib.hid hrow1
  have Hbe1 := Lib.hid hbe1
  have Hput := Lib.hid (putT_any p1 _ exA 1 w1 h1 (by simp [Tr.size]))
  clear h1 hb1 hrow0 hrow1 hbe1
  go_wp2_with fail
  refine (Hput.out).mono ?_
  rintro e w2 ⟨p2, rfl, h2, hb2⟩
  rw [ex_put2] at h2
  have Hrow2 := Lib.hid ((hb2.block w.heap.size (by omega)).trans Hrow1.out)
  have Hbe2 := Lib.hid (Hbe1.out.trans (hb2.mono Hbe1.out.size))
  have hz2 : w.heap.size + 1 ≤ w2.heap.size := by have := hb2.size; omega
  have H2 := Lib.hid (h2.setRow Hrow2.out #[.pointer p2])
  clear h2 hb2
  go_wp2_with (first
    | (refine wpList_store_row rfl 27 (.tmp 1) (.tmp 13) rfl (w.heap.size) #[.pointer p2] rfl rfl 27 #[.pointer none] Hrow2.out sizeTree rfl (one_ptr _) ?_)
    | (refine wpList_load_row rfl 27 (.tmp 1) rfl (w.heap.size) rfl 27 #[.pointer p2] (0, 0) _ (setRow_heap _ _ _ _ _ _ Hrow2.out) Try.underlying27 rfl sizeTree ?_))
  generalize hw3 : World.setRow w2 _ _ = w3
  have Hrow3 : Hid (w3.heap[w.heap.size]? = some (.cells #[.pointer p2] 27 (0, 0))) := by subst hw3; exact setRow_heap _ _ _ _ _ _ Hrow2.out
  have H3 : Hid (Is Value.string 98 w3 p2 (Tr.node exA 1 .nil (.node exB 2 .nil .nil))) := by subst hw3; exact H2.out
  have Hbe3 : Hid (Below w.heap.size w w3) := by subst hw3; exact setRow_below Hbe2.out (Nat.le_refl _) _
  have hz3 : w.heap.size + 1 ≤ w3.heap.size := by subst hw3; simpa using hz2
  clear hw3
  refine (atT_any p2 _ 0 w3 H3.out (by simp [Tr.size]) (by omega) (by omega)).mono ?_
  rintro e w4 ⟨rfl, hb4⟩
  rw [ex_at]
  have Hb4 := Lib.hid hb4
  clear hb4
  simp only [atV]
  go_wp2_with fail
  refine (newSets_any 4 w4 (by omega) (by omega)).mono ?_
  rintro e w5 (⟨hno, -⟩ | ⟨-, -, g, rfl, hS, hb5⟩)
  · exact absurd (by omega) hno
  have HS := Lib.hid hS
  have Hb5 := Lib.hid hb5
  clear hS hb5
  go_wp2_with fail
  refine (link_any (base := w4.heap.size) g 3 1 3 1 3 1 (ones 4) [] w5 HS.out (by decide) (by decide) (ones_ok (by decide)) (by decide) (by decide) (ex_root 3 (by decide)).symm (ex_root 1 (by decide)).symm (by decide) (by decide) (by decide) (by decide) (by decide) (.inr ⟨by decide, rfl, rfl⟩)).mono ?_
  rintro e w6 ⟨rfl, hS6, hb6⟩
  have HS6 := Lib.hid hS6
  have Hb6 := Lib.hid (Hb5.out.trans hb6.below)
  have hok : Ok (uni (ones 4) 3 1) := uni_ok (ones_ok (by decide)) (by decide) (by decide) (by decide) (by decide) (by decide) (by decide)
  have HF := Lib.hid (findSets_any (base := w4.heap.size) 3 g _ _ w6 hS6 (by rw [uni_len]; decide) hok)
  clear hS6 hb6 hok
  go_wp2_with fail
  refine (HF.out).mono ?_
  rintro e w7 ⟨rfl, q7, rfl⟩
  rw [ex_find]
  have Hb7 := Lib.hid (Hb4.out.trans ((below_drewS Hb6.out q7).mono Hb4.out.size))
  have HS7 := Lib.hid (HS6.out.below (below_drewS (Below.refl _ _) q7))
  generalize w6.drewN q7 = w7 at Hb7 HS7 ⊢
  have Hrow7 := Lib.hid ((Hb7.out.block w.heap.size (by omega)).trans Hrow3.out)
  have HRk := Lib.hid (rankT_any p2 _ exB w7 (H3.out.below Hb7.out) (by simp [Tr.size]))
  rw [ex_rank] at HRk
  go_wp2_with (first
    | (refine wpList_load_row_g' rfl 27 (.tmp 1) rfl (w.heap.size) rfl 27 #[.pointer p2] (0, 0) _ Hrow7.out Try.underlying27 rfl sizeTree ?_))
  refine (HRk.out).mono ?_
  rintro e w8 ⟨rfl, hb8⟩
  have HCt := Lib.hid (countSets_any (base := w4.heap.size) g _ _ w8 (HS7.out.below hb8) (by rw [uni_len]; decide) (by decide))
  rw [show ((uni (ones 4) 3 1).length : Int) - (([] ++ [(1, leastOf (ones 4) 3)] : List (Nat × Nat)).length : Nat) = 3 by rw [uni_len]; rfl] at HCt
  have Hb8 := Lib.hid (Hbe3.out.trans ((Hb7.out.trans (hb8.mono Hb7.out.size)).mono Hbe3.out.size))
  clear hb8
  go_wp2_with fail
  refine (HCt.out).mono ?_
  rintro e w9 ⟨rfl, q9, rfl⟩
  go_wp2
  go_ret
  exact ⟨rfl, below_drewS Hb8.out _⟩
end Go.Proofs.Ytdffgkhlkbaecaa.Tok
