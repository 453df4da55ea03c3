/- Contract of the law's own conversion of a unit. -/
import Derived.Test.YtmekdghnkkephaaUnitOf
import Derived.Deep.RegionHeld3
import Derived.Deep.DeepCutAuto
namespace Go.Proofs.Ytmekdghnkkephaa.Tok
open Go.RowKit Go.Proofs.Ytmekdghnkkephaa

theorem infoRW : (Try.prog.info? 102).map (fun i => (i.zero, i.size, i.bytes)) = some (some (.agg #[.string ⟨#[]⟩, .int .i64 0, .int .i64 0]), 3, 32) := by kernel_rfl
theorem three_new (w : World) (t : TypeId) (a b c : Value) {j : Nat} {u : Value} (h : [a, b, c][j]? = some u) : (w.alloc (.cells #[a, b, c] t)).cell? ((⟨w.heap.size, 0, none⟩ : Addr).add j) = some u := by
  rw [add_zero_block, cell_of_row _ _ _ _ _ _ (heap_alloc_new w _)]
  simpa using h
theorem three_new2 (w : World) (o : Obj) (t : TypeId) (a b c : Value) {j : Nat} {u : Value} (h : [a, b, c][j]? = some u) : ((w.alloc o).alloc (.cells #[a, b, c] t)).cell? ((⟨w.heap.size + 1, 0, none⟩ : Addr).add j) = some u := by
  have := three_new (w.alloc o) t a b c h
  rwa [show (w.alloc o).heap.size = w.heap.size + 1 by simp] at this
theorem one_three (a : ByteArray) (b c : Int) : ∀ u ∈ [Value.string a, Value.int .i64 b, Value.int .i64 c], u.oneCell' = true := by
  intro u hu
  have : u = .string a ∨ u = .int .i64 b ∨ u = .int .i64 c := by simpa using hu
  rcases this with rfl | rfl | rfl <;> rfl
theorem row_setCell {w : World} {q i : Nat} {cs : Array Value} {t : TypeId} {fr : Nat × Nat} (v : Value) (h : w.heap[q]? = some (.cells cs t fr)) : (w.setCell ⟨q, i, none⟩ v).heap[q]? = some (.cells (cs.setIfInBounds i v) t fr) := by
  obtain ⟨hlt, hv⟩ := Array.getElem?_eq_some_iff.1 h
  unfold World.setCell
  rw [Array.getElem?_eq_getElem (by simpa using hlt), Array.getElem_modify]
  simp [hv]
theorem own_setRow_below {w : World} {base e size n g : Nat} {v : Value} {xs : List Value} (h : w.ownsRow base e size v n xs) (hg : g < base) (cs : Array Value) : (w.setRow g cs).ownsRow base e size v n xs := by
  refine ⟨h.1, ?_⟩
  rcases h.2 with h1 | ⟨g', cap, cur, hv, hb, hh, hr⟩
  · exact .inl h1
  · exact .inr ⟨g', cap, cur, hv, hb, (setRow_other _ _ _ _ (by omega)).trans hh, hr⟩
theorem words_snoc (ts : List (ByteArray × Int × Int)) (k : Nat) (hk : k < ts.length) : (ts.take k).flatMap wordI ++ wordI ts[k] = (ts.take (k + 1)).flatMap wordI := by
  rw [List.take_succ_eq_append_getElem hk, List.flatMap_append]
  simp
/-- Between two rounds: the unit in its block, its words so far. -/
structure UnitRel (B : Nat) (F : Option Addr) (nf cf : Nat) (ts : List (ByteArray × Int × Int)) (w : World) (k : Nat) (v : Value) (wr : World) : Prop where
  row : wr.heap[B + 2]? = some (.cells #[.slice F nf cf, v, .slice none 0 0] 53 (0, 0))
  own : wr.ownsRow (B + 3) 102 3 v k ((ts.take k).flatMap wordI)
  res : ∃ cs, wr.heap[B + 1]? = some (.cells cs 53 (0, 0)) ∧ cs.size = 3
  bel : Below B w wr
  siz : B + 3 ≤ wr.heap.size
theorem UnitRel.start {B : Nat} {F : Option Addr} {nf cf : Nat} {ts : List (ByteArray × Int × Int)} {w wq : World} {cs : Array Value} (hcs : cs.size = 3)
    (q3 : wq.heap[B + 1]? = some (.cells cs 53 (0, 0))) (hb : Below B w wq) (hsz : wq.heap.size = B + 2) :
    UnitRel B F nf cf ts w 0 (.slice none 0 0) (wq.alloc (.cells #[.slice F nf cf, .slice none 0 0, .slice none 0 0] 53)).drew := by
  refine ⟨?_, World.ownsRow_nil _ _ _ _, ⟨cs, ?_, hcs⟩, (hb.alloc (by omega) _).drew, ?_⟩
  · have := heap_alloc_new wq (.cells #[.slice F nf cf, .slice none 0 0, .slice none 0 0] 53)
    rw [hsz] at this
    exact this
  · exact (Below.heap_alloc wq _ _ (by omega)).trans q3
  · show _ ≤ (wq.alloc _).heap.size
    simp [hsz]
theorem UnitRel.next {B : Nat} {F : Option Addr} {nf cf k : Nat} {ts : List (ByteArray × Int × Int)} {w wr w3 : World} {v v2 : Value} {o1 o2 : Obj} {x : ByteArray} {y z : Int} (hk : k < ts.length) (hx : ts[k] = (x, y, z)) (h : UnitRel B F nf cf ts w k v wr)
    (hg : ((wr.alloc o1).alloc o2).grownBy w3 v.ownBlock) (ho : w3.ownsRow (B + 3) 102 3 v2 (k + 1) ((ts.take k).flatMap wordI ++ [.string x, .int .i64 y, .int .i64 z])) :
    UnitRel B F nf cf ts w (k + 1) v2 (w3.setCell ⟨B + 2, 1, none⟩ v2) := by
  have hsz := h.siz
  have hne : ∀ j, j < B + 3 → some j ≠ v.ownBlock := fun j hj e => by have := (h.own.lt j e.symm).1; omega
  have hrow : ∀ j, j < B + 3 → w3.heap[j]? = wr.heap[j]? := fun j hj => by
    rw [hg.block j (by simp; omega) (hne j hj), Below.heap_alloc _ _ _ (by simp; omega), Below.heap_alloc _ _ _ (by omega)]
  have hs3 := hg.size
  simp at hs3
  refine ⟨?_, ?_, ?_, ?_, ?_⟩
  · exact (row_setCell v2 ((hrow _ (by omega)).trans h.row)).trans rfl
  · rw [← words_snoc ts k hk, hx]
    exact ownsRow_setCell_below ho (by simp) _
  · obtain ⟨cs, h1, h2⟩ := h.res
    exact ⟨cs, (Below.heap_setCell _ _ _ _ (by simp)).trans ((hrow _ (by omega)).trans h1), h2⟩
  · exact ((((h.bel.alloc (by omega) _).alloc (by simp; omega) _).grown hg (by simp; omega) (fun q hq => by have := (h.own.lt q hq).1; omega))).setCell (by simp) _
  · rw [World.size_setCell]
    omega

set_option maxHeartbeats 1600000 in
set_option maxRecDepth 8000 in
theorem unit_any (F A : Option Addr) (nf cf n c : Nat) (ts : List (ByteArray × Int × Int)) (w : World) (hn : n ≤ 100) (hr : Rd w w.heap.size 3 A n (ts.flatMap wordI)) :
    Calls Try.prog 19 #[.agg #[.slice F nf cf, .slice A n c, .slice none 0 0]] w fun e w' => ∃ B d, e = .returned (.agg #[.slice F nf cf, .slice B n d, .slice none 0 0]) ∧ Rd w' w'.heap.size 3 B n (ts.flatMap wordI) ∧ Below w.heap.size w w' := by
  obtain ⟨i0, hi0, hz0, hz1, hz2⟩ := info_parts infoRW
  have hlen : ts.length = n := by have := hr.len; rw [flat3_len wordI (fun _ => rfl)] at this; omega
  have Hlen := Lib.hid hlen
  have Hr := Lib.hid hr
  clear hlen hr
  go_enter Try.func19, Try.ntmps19
  go_upto_region 1 with (fail)
  generalize hwq : World.alloc (World.alloc _ _) _ = wq
  obtain ⟨q0, q1, q2, q3, hbq, hsz⟩ := unit_world hwq
  clear hwq
  go_cut [3] (fun s wx => s = .pointer (some ⟨w.heap.size + 2, 0, none⟩) ∧ wx = (wq.alloc (.cells #[.slice F nf cf, .slice none 0 0, .slice none 0 0] 53)).drew)
  case first =>
    go_region_with (first | (go_at_call 14; refine (comments_none _).mono ?_; rintro e w' ⟨rfl, rfl⟩))
    all_goals (go_wp2_with fail; go_meet; exact ⟨rfl, rfl⟩)
  case rest =>
    obtain ⟨rfl, rfl⟩ := hcut
    have Hst := Lib.hid (UnitRel.start (F := F) (nf := nf) (cf := cf) (ts := ts) rfl q3 hbq hsz)
    have hq1 : ((wq.alloc (.cells #[.slice F nf cf, .slice none 0 0, .slice none 0 0] 53)).drew).cell? ⟨w.heap.size, 1, none⟩ = some (.slice A n c) := (World.cell?_alloc_lt wq _ _ (by simp; omega)).trans q1
    clear q0 q1 q2 q3 hbq hsz
    go_wp2
    go_loopw [15] (fun i wr => ∃ (k : Nat) (v : Value), k ≤ n ∧ i = .int .i64 k ∧ UnitRel w.heap.size F nf cf ts w k v wr) (fun i _ => n - (intOf i).toNat)
    case atStart => exact ⟨0, _, Nat.zero_le _, rfl, Hst.out⟩
    case round =>
      obtain ⟨k, v, hk, rfl, hrel⟩ := hrel
      have Rel := Lib.hid hrel
      clear hrel hq1
      by_cases hlt : k < n
      · obtain ⟨b, off, rfl, hbb, hc⟩ := Hr.out.pos (by omega)
        have hk1 : k < ts.length := by have := Hlen.out; omega
        have hg0 := (flat3 wordI (fun _ => rfl) ts k 0 hk1 (by omega)).trans rfl
        have hg1' := (flat3 wordI (fun _ => rfl) ts k 1 hk1 (by omega)).trans rfl
        have hg2' := (flat3 wordI (fun _ => rfl) ts k 2 hk1 (by omega)).trans rfl
        have hcell0 := (Rel.out.bel.cell (p := ⟨b, off + k * 3, none⟩) hbb).trans (hc _ _ hg0)
        have hcell1 := (Rel.out.bel.cell (p := ⟨b, off + (k * 3 + 1), none⟩) hbb).trans (hc _ _ hg1')
        have hcell2 := (Rel.out.bel.cell (p := ⟨b, off + (k * 3 + 2), none⟩) hbb).trans (hc _ _ hg2')
        rw [← Nat.add_assoc] at hcell1 hcell2
        obtain ⟨x, y, z, hx⟩ : ∃ x y z, ts[k] = (x, y, z) := ⟨_, _, _, rfl⟩
        rw [hx] at hcell0 hcell1 hcell2
        simp only at hcell0 hcell1 hcell2
        have Hx := Lib.hid hx
        obtain ⟨A2, c2, rfl⟩ := own_slice Rel.out.own
        have hco : wr.cell? ⟨w.heap.size + 2, 1, none⟩ = some (.slice A2 k c2) := by rw [cell_of_row _ _ _ _ _ _ Rel.out.row]; rfl
        have hfo : wr.frozen? ⟨w.heap.size + 2, 1, none⟩ = false := by simp [World.frozen?, Rel.out.row]
        have hne : w.heap.size + 2 ≠ wr.heap.size := by have := Rel.out.siz; omega
        have hlt2 : w.heap.size + 2 < wr.heap.size := by have := Rel.out.siz; omega
        have h63 : k + 1 ≤ maxLen := by simp only [maxLen]; omega
        have hby : (k + 1) * 32 ≤ 140737488355328 := by omega
        have hbs : Hid (∀ o o', w.heap.size + 3 ≤ ((wr.alloc o).alloc o').heap.size) := fun o o' => by have := Rel.out.siz; simp; omega
        have hnx : Hid (∀ (o1 o2 : Obj) (w3 : World), ((wr.alloc o1).alloc o2).grownBy w3 (Value.slice A2 k c2).ownBlock → w3.cell? ⟨w.heap.size + 2, 1, none⟩ = some (.slice A2 k c2) ∧ w3.frozen? ⟨w.heap.size + 2, 1, none⟩ = false) := fun o1 o2 w3 hg => by
          have hr3 : w3.heap[w.heap.size + 2]? = some (.cells #[.slice F nf cf, .slice A2 k c2, .slice none 0 0] 53 (0, 0)) := by
            rw [hg.block _ (by have := Rel.out.siz; simp; omega) (fun e => by have := (Rel.out.own.lt _ e.symm).1; omega), Below.heap_alloc _ _ _ (by have := Rel.out.siz; simp; omega), Below.heap_alloc _ _ _ (by have := Rel.out.siz; omega)]
            exact Rel.out.row
          exact ⟨by rw [cell_of_row _ _ _ _ _ _ hr3]; rfl, by simp [World.frozen?, hr3]⟩
        clear hg0 hg1' hg2' hc hx
        go_wp2_with (at_builtin; go_must (refine wpList_append_own _ rfl (.tmp 20) (.tmp 26) 51 rfl (w.heap.size + 3) 102 i0 (.agg #[.string ⟨#[]⟩, .int .i64 0, .int .i64 0]) 3 32 Try.underlying51 hi0 hz0 hz1 hz2 rfl (by decide) _ _ _ rfl ((Rel.out.own.alloc _).alloc _) ⟨wr.heap.size + 1, 0, none⟩ 1 1 [.string x, .int .i64 y, .int .i64 z] rfl rfl (fun j u hu => three_new2 _ _ _ _ _ _ hu) (one_three _ _ _) h63 hby (hbs.out _ _) ?_); intro v2 w3 hown3 hgrow3 _; obtain ⟨hc3, hf3⟩ := hnx.out _ _ _ hgrow3; obtain ⟨A3, c3, rfl⟩ := own_slice hown3)
        go_light
        exact ⟨⟨k + 1, _, by omega, by go_num, Rel.out.next hk1 Hx.out hgrow3 hown3⟩, by simp [intOf]; omega⟩
      · obtain rfl : k = n := by omega
        obtain ⟨A2, c2, rfl⟩ := own_slice Rel.out.own
        obtain ⟨cs, hres, hcs⟩ := Rel.out.res
        have Hrow := Lib.hid Rel.out.row
        have Hres := Lib.hid hres
        have Hcs := Lib.hid hcs
        clear hres hcs
        go_wp2_with (first
          | (refine wpList_load_row rfl 53 (.tmp 3) rfl (w.heap.size + 2) rfl 53 #[.slice F nf cf, .slice A2 k c2, .slice none 0 0] (0, 0) _ Hrow.out Try.underlying53 rfl sizeU ?_)
          | (refine wpList_store_row rfl 53 (.tmp 2) (.tmp 30) rfl (w.heap.size + 1) #[.slice F nf cf, .slice A2 k c2, .slice none 0 0] rfl rfl 53 cs Hres.out sizeU Hcs.out (one_unit _ _ _ _ _ _ _ _ _) ?_))
        refine bodyPost_ret (v := .agg #[.slice F nf cf, .slice A2 k c2, .slice none 0 0]) (results_cell_row rfl _ _ (w.heap.size + 1) 53 #[.slice F nf cf, .slice A2 k c2, .slice none 0 0] (0, 0) _ rfl (setRow_heap _ _ _ _ _ _ Hres.out) Try.underlying53 rfl sizeU) rfl ⟨A2, c2, rfl, ?_, ?_⟩
        · have h1 := Rd.own (own_setRow_below (g := w.heap.size + 1) Rel.out.own (by omega) #[.slice F nf cf, .slice A2 k c2, .slice none 0 0])
          rw [List.take_of_length_le (by have := Hlen.out; omega)] at h1
          exact h1
        · exact Rel.out.bel.trans ⟨rfl, rfl, rfl, by simp, fun i hi => setRow_other _ _ _ _ (by omega)⟩
end Go.Proofs.Ytmekdghnkkephaa.Tok
