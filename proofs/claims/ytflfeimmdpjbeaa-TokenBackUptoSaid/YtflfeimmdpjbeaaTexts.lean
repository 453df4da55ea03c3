/- Contracts of both Texts. -/
import Derived.Test.YtflfeimmdpjbeaaRefScan
namespace Go.Proofs.Ytflfeimmdpjbeaa.Tok
open Go.RowKit Go.Proofs.Ytflfeimmdpjbeaa

theorem infoStr : (Try.prog.info? 9).map (fun i => (i.zero, i.size, i.bytes)) = some (some (.string ⟨#[]⟩), 1, 16) := by kernel_rfl

/-- A token whose offset is any number, as its two cells. -/
def tokI (t : ByteArray × Int) : List Value := [.string t.1, .int .i64 t.2]
theorem tokI_len (t : ByteArray × Int) : (tokI t).length = 2 := rfl
def txt (t : ByteArray × Int) : Value := .string t.1

theorem take_set_succ {α : Type} (l : List α) (k : Nat) (u : α) (h : k < l.length) : (l.set k u).take (k + 1) = l.take k ++ [u] := by
  rw [List.take_succ_eq_append_getElem (by simpa using h), List.take_set_of_le (Nat.le_refl _)]
  simp
theorem take_map_succ {α β : Type} (f : α → β) (l : List α) (k : Nat) (h : k < l.length) : (l.take (k + 1)).map f = (l.take k).map f ++ [f l[k]] := by
  rw [List.take_succ_eq_append_getElem h, List.map_append]
  rfl

set_option maxHeartbeats 800000 in
theorem texts_any (A : Option Addr) (n c : Nat) (ts : List (ByteArray × Int)) (w : World) (hn : n ≤ 1000000) (hr : Rd w w.heap.size 2 A n (ts.flatMap tokI)) :
    Calls Try.prog 20 #[.slice A n c] w fun e w' => ∃ v, e = .returned v ∧ w'.ownsRow w.heap.size 9 1 v n (ts.map txt) ∧ Below w.heap.size w w' := by
  obtain ⟨i0, hi0, hz0, hz1, hz2⟩ := info_parts infoStr
  have hlen : ts.length = n := by have := hr.len; rw [flat2_len tokI tokI_len] at this; omega
  have h63 : n ≤ maxLen := by simp only [maxLen]; omega
  have hby : i0.bytes * n ≤ 281474976710656 := by rw [hz2]; omega
  have Hlen := Lib.hid hlen
  have Hr := Lib.hid hr
  clear hlen hr
  go_enter Try.func20, Try.ntmps20
  go_wp2_with (at_make; go_must (refine wpList_make_full _ rfl _ _ 31 rfl w.heap.size 9 i0 (.string ⟨#[]⟩) 1 Try.underlying31 hi0 hz0 hz1 _ _ _ _ n rfl rfl rfl rfl hby h63 (Nat.le_refl _) ?_); intro w1 hown1 hg1)
  have hb1 : Below w.heap.size w w1 := (Below.refl _ _).grown hg1 (Nat.le_refl _) (fun k hk => by cases hk)
  have hs1 : w.heap.size < w1.heap.size := (hown1.lt _ rfl).2
  go_loopw [11] (fun i wr => ∃ (k : Nat) (xs : List Value), k ≤ n ∧ i = .int .i64 k ∧ wr.ownsRow w.heap.size 9 1 (.slice (some ⟨w.heap.size, 0, none⟩) n n) n xs ∧ Hid (xs.take k = (ts.take k).map txt) ∧ Below w.heap.size w wr ∧ w.heap.size < wr.heap.size) (fun i _ => n - (intOf i).toNat)
  case atStart => exact ⟨0, _, Nat.zero_le _, rfl, hown1, rfl, hb1, hs1⟩
  case round =>
    obtain ⟨k, xs, hk, rfl, hown, htk, hbw, hsz⟩ := hrel
    by_cases hlt : k < n
    · obtain ⟨b, off, rfl, hbb, hc⟩ := Hr.out.pos (by omega)
      have hk1 : k < ts.length := by have := Hlen.out; omega
      have hxl : k < xs.length := by have := hown.1; omega
      have hg0 : (ts.flatMap tokI)[k * 2]? = some (.string ts[k].1) := flat2 tokI tokI_len ts k 0 hk1 (by omega)
      have hg1' : (ts.flatMap tokI)[k * 2 + 1]? = some (.int .i64 ts[k].2) := flat2 tokI tokI_len ts k 1 hk1 (by omega)
      have hmap := Lib.hid (take_map_succ txt ts k hk1)
      obtain ⟨x, hx⟩ : ∃ x, x = ts[k].1 := ⟨_, rfl⟩
      obtain ⟨y, hy⟩ : ∃ y, y = ts[k].2 := ⟨_, rfl⟩
      rw [← hx] at hg0
      rw [← hy] at hg1'
      have Hx := Lib.hid hx
      clear hx hy
      have hcell0 : wr.cell? ⟨b, off + k * 2, none⟩ = some (.string x) := (hbw.cell hbb).trans (hc _ _ hg0)
      have hcell1 : wr.cell? ⟨b, off + k * 2 + 1, none⟩ = some (.int .i64 y) := (hbw.cell hbb).trans (hc _ _ hg1')
      have hcg : wr.cell? ⟨w.heap.size, k, none⟩ = some xs[k] := by
        rw [hown.cellAt k (by omega)]; exact List.getElem?_eq_getElem hxl
      have hfg : wr.frozen? ⟨w.heap.size, k, none⟩ = false := hown.frozenAt k
      have hne : w.heap.size ≠ wr.heap.size := by omega
      have Hown := Lib.hid hown
      clear hg0 hg1' hc hown
      go_wp2
      go_light
      refine ⟨⟨k + 1, xs.set k (.string x), by omega, by go_num, (Hown.out.stored k (.string x)).1.alloc _, ?_, (hbw.setCell (p := ⟨w.heap.size, k, none⟩) (Nat.le_refl _) _).alloc (by simp [World.setCell]; omega) _, by simp [World.setCell]; omega⟩, by simp [intOf]; omega⟩
      show _ = _
      rw [take_set_succ _ _ _ hxl, hmap.out, htk.out, Hx.out]
      rfl
    · obtain rfl : k = n := by omega
      have Hown := Lib.hid hown
      clear hown
      go_wp2
      go_ret
      refine ⟨_, rfl, ?_, hbw⟩
      have h1 := htk.out
      rw [List.take_of_length_le (by have := Hown.out.1; omega), List.take_of_length_le (by have := Hlen.out; omega)] at h1
      rw [← h1]
      exact Hown.out

theorem one_new (w : World) (t : TypeId) (a : Value) {j : Nat} {u : Value} (h : [a][j]? = some u) : (w.alloc (.cells #[a] t)).cell? ((⟨w.heap.size, 0, none⟩ : Addr).add j) = some u := by
  rw [add_zero_block, cell_of_row _ _ _ _ _ _ (heap_alloc_new w _)]
  simpa using h
theorem one_str (a : ByteArray) : ∀ u ∈ [Value.string a], u.oneCell' = true := by
  intro u hu
  rcases List.mem_cons.1 hu with rfl | hu
  · rfl
  · cases hu

set_option maxHeartbeats 800000 in
theorem rtexts_any (A : Option Addr) (n c : Nat) (ts : List (ByteArray × Int)) (w : World) (hn : n ≤ 1000000) (hr : Rd w w.heap.size 2 A n (ts.flatMap tokI)) :
    Calls Try.prog 21 #[.slice A n c] w fun e w' => ∃ v, e = .returned v ∧ w'.ownsRow w.heap.size 9 1 v n (ts.map txt) ∧ Below w.heap.size w w' := by
  obtain ⟨i0, hi0, hz0, hz1, hz2⟩ := info_parts infoStr
  have hlen : ts.length = n := by have := hr.len; rw [flat2_len tokI tokI_len] at this; omega
  have Hlen := Lib.hid hlen
  have Hr := Lib.hid hr
  clear hlen hr
  go_enter Try.func21, Try.ntmps21
  go_wp2
  go_loopw [3, 4] (fun v i wr => ∃ k : Nat, k ≤ n ∧ i = .int .i64 k ∧ wr.ownsRow w.heap.size 9 1 v k ((ts.take k).map txt) ∧ Below w.heap.size w wr ∧ w.heap.size ≤ wr.heap.size) (fun _ i _ => n - (intOf i).toNat)
  case atStart => exact ⟨0, Nat.zero_le _, rfl, by simpa using World.ownsRow_made w #[] 0 (Nat.le_refl _) (by simp [maxLen]) rfl, (Below.refl _ _).alloc (Nat.le_refl _) _, by simp⟩
  case round =>
    obtain ⟨k, hk, rfl, hown, hbw, hsz⟩ := hrel
    by_cases hlt : k < n
    · obtain ⟨b, off, rfl, hbb, hc⟩ := Hr.out.pos (by omega)
      have hk1 : k < ts.length := by have := Hlen.out; omega
      have hg0 : (ts.flatMap tokI)[k * 2]? = some (.string ts[k].1) := flat2 tokI tokI_len ts k 0 hk1 (by omega)
      have hmap := Lib.hid (take_map_succ txt ts k hk1)
      obtain ⟨x, hx⟩ : ∃ x, x = ts[k].1 := ⟨_, rfl⟩
      rw [← hx] at hg0
      have Hx := Lib.hid hx
      clear hx
      have hcell0 : wr.cell? ⟨b, off + k * 2, none⟩ = some (.string x) := (hbw.cell hbb).trans (hc _ _ hg0)
      obtain ⟨A1, c1, rfl⟩ := own_slice hown
      have h63 : k + 1 ≤ maxLen := by simp only [maxLen]; omega
      have hby : (k + 1) * 16 ≤ 140737488355328 := by omega
      have hbs2 : ∀ o, w.heap.size ≤ (wr.alloc o).heap.size := fun o => by simp; omega
      clear hg0 hc
      go_wp2_with (at_builtin; go_must (refine wpList_append_own _ rfl (.tmp 12) (.tmp 18) 31 rfl w.heap.size 9 i0 (.string ⟨#[]⟩) 1 16 Try.underlying31 hi0 hz0 hz1 hz2 rfl (by decide) _ _ _ rfl (hown.alloc _) ⟨wr.heap.size, 0, none⟩ 1 1 [.string x] rfl rfl (fun j u hu => one_new wr _ _ hu) (one_str _) h63 hby (hbs2 _) ?_); intro v2 w2 hown2 hgrow2 _)
      go_light
      have hsz2 := hgrow2.size
      have hal : (wr.alloc (.cells #[.string x] 9)).heap.size = wr.heap.size + 1 := by simp
      refine ⟨⟨k + 1, by omega, by go_num, ?_, (hbw.alloc hsz _).grown hgrow2 (by omega) (fun j hj => (hown.lt j hj).1), by omega⟩, by simp [intOf]; omega⟩
      rw [hmap.out]
      have e : txt ts[k] = .string x := by rw [Hx.out]; rfl
      rw [e]
      exact hown2
    · obtain rfl : k = n := by omega
      have Hown := Lib.hid hown
      clear hown
      go_wp2
      go_ret
      have h1 := Hown.out
      rw [List.take_of_length_le (by have := Hlen.out; omega)] at h1
      exact ⟨_, rfl, h1, hbw⟩
end Go.Proofs.Ytflfeimmdpjbeaa.Tok
