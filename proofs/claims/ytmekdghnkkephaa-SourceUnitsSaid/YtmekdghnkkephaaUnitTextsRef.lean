/- Contract of the reference's Texts of a unit. -/
import Derived.Test.YtmekdghnkkephaaUnitTexts
namespace Go.Proofs.Ytmekdghnkkephaa.Tok
open Go.RowKit Go.Proofs.Ytmekdghnkkephaa

set_option maxHeartbeats 800000 in
set_option maxRecDepth 8000 in
theorem rutexts_any (F A C : Option Addr) (nf n nc cf c cc : Nat) (ts : List (ByteArray × Int × Int)) (w : World) (hn : n ≤ 1000000) (hr : Rd w w.heap.size 3 A n (ts.flatMap wordI)) :
    Calls Try.prog 24 #[.agg #[.slice F nf cf, .slice A n c, .slice C nc cc]] w fun e w' => ∃ v, e = .returned v ∧ w'.ownsRow w.heap.size 9 1 v n (ts.map wtx) ∧ Below w.heap.size w w' := by
  obtain ⟨i0, hi0, hz0, hz1, hz2⟩ := info_parts infoStr
  have hlen : ts.length = n := by have := hr.len; rw [flat3_len wordI (fun _ => rfl)] at this; omega
  have Hlen := Lib.hid hlen
  have Hr := Lib.hid hr
  clear hlen hr
  go_enter Try.func24, Try.ntmps24
  go_wp2
  generalize hw0 : World.alloc w _ = w0
  obtain ⟨hc0, hb0, hs0⟩ : w0.cell? ⟨w.heap.size, 1, none⟩ = some (.slice A n c) ∧ Below w.heap.size w w0 ∧ w0.heap.size = w.heap.size + 1 := by
    subst hw0
    refine ⟨by rw [cell_of_row _ _ _ _ _ _ (heap_alloc_new _ _)]; rfl, (Below.refl _ _).alloc (Nat.le_refl _) _, by simp⟩
  clear hw0
  have hB : w.heap.size < w0.heap.size := by omega
  go_loopw [3, 4] (fun v i wr => ∃ k : Nat, k ≤ n ∧ i = .int .i64 k ∧ wr.ownsRow w0.heap.size 9 1 v k ((ts.take k).map wtx) ∧ Below w0.heap.size w0 wr ∧ w0.heap.size ≤ wr.heap.size) (fun _ i _ => n - (intOf i).toNat)
  case atStart => exact ⟨0, Nat.zero_le _, rfl, by simpa [hs0] using (World.ownsRow_made (base := w0.heap.size) w0 #[] 0 (Nat.le_refl _) (by simp [maxLen]) rfl), (Below.refl _ _).alloc (Nat.le_refl _) _, by simp⟩
  case round =>
    obtain ⟨k, hk, rfl, hown, hbw, hsz⟩ := hrel
    have hcu : wr.cell? ⟨w.heap.size, 1, none⟩ = some (.slice A n c) := (hbw.cell (p := ⟨w.heap.size, 1, none⟩) hB).trans hc0
    have hbx := Lib.hid (hb0.trans (hbw.mono hb0.size))
    by_cases hlt : k < n
    · obtain ⟨b, off, rfl, hbb, hc⟩ := Hr.out.pos (by omega)
      have hk1 : k < ts.length := by have := Hlen.out; omega
      have hg0 := (flat3 wordI (fun _ => rfl) ts k 0 hk1 (by omega)).trans rfl
      have hmap := Lib.hid (take_map_succ wtx ts k hk1)
      have hcell0 := (hbx.out.cell (p := ⟨b, off + k * 3, none⟩) hbb).trans (hc _ _ hg0)
      obtain ⟨x, hx⟩ : ∃ x, x = ts[k].1 := ⟨_, rfl⟩
      rw [← hx] at hcell0
      have Hx := Lib.hid hx
      clear hx
      obtain ⟨A1, c1, rfl⟩ := own_slice hown
      have h63 : k + 1 ≤ maxLen := by simp only [maxLen]; omega
      have hby : (k + 1) * 16 ≤ 140737488355328 := by omega
      have hbs2 : ∀ o, w0.heap.size ≤ (wr.alloc o).heap.size := fun o => by simp; omega
      clear hg0 hc
      go_wp2_with (at_builtin; go_must (refine wpList_append_own _ rfl (.tmp 13) (.tmp 20) 43 rfl w0.heap.size 9 i0 (.string ⟨#[]⟩) 1 16 Try.underlying43 hi0 hz0 hz1 hz2 rfl (by decide) _ _ _ rfl (hown.alloc _) ⟨wr.heap.size, 0, none⟩ 1 1 [.string x] rfl rfl (fun j u hu => one_new wr _ _ hu) (one_str _) h63 hby (hbs2 _) ?_); intro v2 w2 hown2 hgrow2 _)
      go_light
      have hsz2 := hgrow2.size
      have hal : (wr.alloc (.cells #[.string x] 9)).heap.size = wr.heap.size + 1 := by simp
      refine ⟨⟨k + 1, by omega, by go_num, ?_, (hbw.alloc hsz _).grown hgrow2 (by omega) (fun j hj => (hown.lt j hj).1), by omega⟩, by simp [intOf]; omega⟩
      rw [hmap.out]
      have e : wtx ts[k] = .string x := by rw [Hx.out]; rfl
      rw [e]
      exact hown2
    · obtain rfl : k = n := by omega
      have Hown := Lib.hid hown
      clear hown
      go_wp2
      go_ret
      have h1 := Hown.out
      rw [List.take_of_length_le (by have := Hlen.out; omega)] at h1
      exact ⟨_, rfl, own_base h1 hb0.size, hbx.out⟩
end Go.Proofs.Ytmekdghnkkephaa.Tok
