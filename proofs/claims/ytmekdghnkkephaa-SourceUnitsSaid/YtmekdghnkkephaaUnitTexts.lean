/- Contracts of Texts of a unit, both. -/
import Derived.Test.YtmekdghnkkephaaUnits
namespace Go.Proofs.Ytmekdghnkkephaa.Tok
open Go.RowKit Go.Proofs.Ytmekdghnkkephaa

def wtx (t : ByteArray × Int × Int) : Value := .string t.1

set_option maxHeartbeats 800000 in
set_option maxRecDepth 8000 in
theorem utexts_any (F A C : Option Addr) (nf n nc cf c cc : Nat) (ts : List (ByteArray × Int × Int)) (w : World) (hn : n ≤ 1000000) (hr : Rd w w.heap.size 3 A n (ts.flatMap wordI)) :
    Calls Try.prog 23 #[.agg #[.slice F nf cf, .slice A n c, .slice C nc cc]] w fun e w' => ∃ v, e = .returned v ∧ w'.ownsRow w.heap.size 9 1 v n (ts.map wtx) ∧ Below w.heap.size w w' := by
  obtain ⟨i0, hi0, hz0, hz1, hz2⟩ := info_parts infoStr
  have hlen : ts.length = n := by have := hr.len; rw [flat3_len wordI (fun _ => rfl)] at this; omega
  have h63 : n ≤ maxLen := by simp only [maxLen]; omega
  have hby : i0.bytes * n ≤ 281474976710656 := by rw [hz2]; omega
  have Hlen := Lib.hid hlen
  have Hr := Lib.hid hr
  clear hlen hr
  have hbu : Hid (∀ o : Obj, Below w.heap.size w (w.alloc o) ∧ w.heap.size ≤ (w.alloc o).heap.size) := fun o => ⟨(Below.refl _ _).alloc (Nat.le_refl _) _, by simp⟩
  have hcu : Hid (∀ w1, (w.alloc (.cells #[.slice F nf cf, .slice A n c, .slice C nc cc] 46)).grownBy w1 none → w1.cell? ⟨w.heap.size, 1, none⟩ = some (.slice A n c)) := fun w1 hg =>
    hg.cell (a := ⟨w.heap.size, 1, none⟩) (by rw [cell_of_row _ _ _ _ _ _ (heap_alloc_new _ _)]; rfl) (by simp)
  go_enter Try.func23, Try.ntmps23
  go_wp2_with (at_make; go_must (refine wpList_make_full _ rfl _ _ 43 rfl w.heap.size 9 i0 (.string ⟨#[]⟩) 1 Try.underlying43 hi0 hz0 hz1 _ _ _ _ n rfl rfl rfl rfl hby h63 (hbu.out _).2 ?_); intro w1 hown1 hg1; have hcw := hcu.out _ hg1)
  have hb1 : Below w.heap.size w w1 := (hbu.out _).1.grown hg1 (hbu.out _).2 (fun k hk => by cases hk)
  rw [show ∀ o : Obj, (w.alloc o).heap.size = w.heap.size + 1 from fun o => by simp] at hown1
  have hs1 : w.heap.size + 1 < w1.heap.size := (hown1.lt _ rfl).2
  go_loopw [13] (fun i wr => ∃ (k : Nat) (xs : List Value), k ≤ n ∧ i = .int .i64 k ∧ wr.ownsRow w.heap.size 9 1 (.slice (some ⟨w.heap.size + 1, 0, none⟩) n n) n xs ∧ Hid (xs.take k = (ts.take k).map wtx) ∧ Below w.heap.size w wr ∧ w.heap.size + 1 < wr.heap.size) (fun i _ => n - (intOf i).toNat)
  case atStart => exact ⟨0, _, Nat.zero_le _, rfl, hown1, rfl, hb1, hs1⟩
  case round =>
    obtain ⟨k, xs, hk, rfl, hown, htk, hbw, hsz⟩ := hrel
    by_cases hlt : k < n
    · obtain ⟨b, off, rfl, hbb, hc⟩ := Hr.out.pos (by omega)
      have hk1 : k < ts.length := by have := Hlen.out; omega
      have hxl : k < xs.length := by have := hown.1; omega
      have hg0 := (flat3 wordI (fun _ => rfl) ts k 0 hk1 (by omega)).trans rfl
      have hg1' := (flat3 wordI (fun _ => rfl) ts k 1 hk1 (by omega)).trans rfl
      have hg2' := (flat3 wordI (fun _ => rfl) ts k 2 hk1 (by omega)).trans rfl
      have hcell0 := (hbw.cell (p := ⟨b, off + k * 3, none⟩) hbb).trans (hc _ _ hg0)
      have hcell1 := (hbw.cell (p := ⟨b, off + (k * 3 + 1), none⟩) hbb).trans (hc _ _ hg1')
      have hcell2 := (hbw.cell (p := ⟨b, off + (k * 3 + 2), none⟩) hbb).trans (hc _ _ hg2')
      rw [← Nat.add_assoc] at hcell1 hcell2
      have hmap := Lib.hid (take_map_succ wtx ts k hk1)
      obtain ⟨x, y, z, hx⟩ : ∃ x y z, ts[k] = (x, y, z) := ⟨_, _, _, rfl⟩
      rw [hx] at hcell0 hcell1 hcell2
      simp only at hcell0 hcell1 hcell2
      have Hx := Lib.hid hx
      have hcg : wr.cell? ⟨w.heap.size + 1, k, none⟩ = some xs[k] := by
        rw [hown.cellAt k (by omega)]; exact List.getElem?_eq_getElem hxl
      have hfg : wr.frozen? ⟨w.heap.size + 1, k, none⟩ = false := hown.frozenAt k
      have hne : w.heap.size + 1 ≠ wr.heap.size := by omega
      have Hown := Lib.hid hown
      clear hg0 hg1' hg2' hc hown hx hcw
      go_wp2
      go_light
      refine ⟨⟨k + 1, xs.set k (.string x), by omega, by go_num, (Hown.out.stored k (.string x)).1.alloc _, ?_, (hbw.setCell (p := ⟨w.heap.size + 1, k, none⟩) (by simp) _).alloc (by simp [World.setCell]; omega) _, by simp [World.setCell]; omega⟩, by simp [intOf]; omega⟩
      show _ = _
      rw [take_set_succ _ _ _ hxl, hmap.out, htk.out, Hx.out]
      rfl
    · obtain rfl : k = n := by omega
      have Hown := Lib.hid hown
      clear hown
      go_wp2
      go_ret
      refine ⟨_, rfl, ?_, hbw⟩
      have h1 := htk.out
      rw [List.take_of_length_le (by have := Hown.out.1; omega), List.take_of_length_le (by have := Hlen.out; omega)] at h1
      rw [← h1]
      exact Hown.out
end Go.Proofs.Ytmekdghnkkephaa.Tok
