/- The law's own conversion of comments, and that two lists of comments that read alike are equal. -/
import Derived.Test.YtmekdghnkkephaaRefStrip
namespace Go.Proofs.Ytmekdghnkkephaa.Tok
open Go.RowKit Go.Proofs.Ytmekdghnkkephaa

theorem flat4 {α : Type} (f : α → List Value) (hf : ∀ x, (f x).length = 4) : ∀ (l : List α) (k i : Nat) (h : k < l.length), i < 4 → (l.flatMap f)[k * 4 + i]? = (f l[k])[i]?
  | [], _, _, h, _ => by simp at h
  | x :: l, 0, i, _, hi => by
    rw [List.flatMap_cons, List.getElem?_append_left (by rw [hf]; omega)]
    simp
  | x :: l, k + 1, i, h, hi => by
    have hx := hf x
    rw [List.flatMap_cons, List.getElem?_append_right (by omega), hx, show (k + 1) * 4 + i - 4 = k * 4 + i by omega, flat4 f hf l k i (by simpa using h) hi]
    simp
theorem flat4_len {α : Type} (f : α → List Value) (hf : ∀ x, (f x).length = 4) (l : List α) : (l.flatMap f).length = l.length * 4 := by
  induction l with
  | nil => rfl
  | cons x l ih => rw [List.flatMap_cons, List.length_append, hf, ih, List.length_cons]; omega
theorem comV_len (s : ByteArray) (c : Nat × Nat × Nat) : (comV s c).length = 4 := rfl
theorem four_new2 (w : World) (o : Obj) (t : TypeId) (a b c d : Value) {j : Nat} {u : Value} (h : [a, b, c, d][j]? = some u) : ((w.alloc o).alloc (.cells #[a, b, c, d] t)).cell? ((⟨w.heap.size + 1, 0, none⟩ : Addr).add j) = some u := by
  have := four_new (w.alloc o) t a b c d h
  rwa [show (w.alloc o).heap.size = w.heap.size + 1 by simp] at this
theorem com_take (s : ByteArray) (cs : List (Nat × Nat × Nat)) (k : Nat) (hk : k < cs.length) : comCells s (cs.take k) ++ comV s cs[k] = comCells s (cs.take (k + 1)) := by
  rw [List.take_succ_eq_append_getElem hk, ← com_snoc]

set_option maxHeartbeats 1600000 in
set_option maxRecDepth 8000 in
theorem comments_any (s : ByteArray) (cs : List (Nat × Nat × Nat)) (A : Option Addr) (n c : Nat) (w : World) (hn : n ≤ 40000) (hr : Rd w w.heap.size 4 A n (comCells s cs)) :
    Calls Try.prog 14 #[.slice A n c] w fun e w' => ∃ v, e = .returned v ∧ w'.ownsRow w.heap.size 38 4 v n (comCells s cs) ∧ Below w.heap.size w w' := by
  obtain ⟨j0, hj0, hy0, hy1, hy2⟩ := info_parts infoRCom
  have hlen : cs.length = n := by have := hr.len; unfold comCells at this; rw [flat4_len _ (comV_len s)] at this; omega
  have Hlen := Lib.hid hlen
  have Hr := Lib.hid hr
  clear hlen hr
  go_enter Try.func14, Try.ntmps14
  go_wp2
  go_loopw [3, 8] (fun v i wr => ∃ k : Nat, k ≤ n ∧ i = .int .i64 k ∧ wr.ownsRow w.heap.size 38 4 v k (comCells s (cs.take k)) ∧ Below w.heap.size w wr) (fun _ i _ => n - (intOf i).toNat)
  case atStart => exact ⟨0, Nat.zero_le _, rfl, World.ownsRow_nil _ _ _ _, Below.refl _ _⟩
  case round =>
    obtain ⟨k, hk, rfl, hown, hbw⟩ := hrel
    by_cases hlt : k < n
    · obtain ⟨b, off, rfl, hbb, hc⟩ := Hr.out.pos (by omega)
      have hk1 : k < cs.length := by have := Hlen.out; omega
      have hg0 := (flat4 (comV s) (comV_len s) cs k 0 hk1 (by omega)).trans rfl
      have hg1 := (flat4 (comV s) (comV_len s) cs k 1 hk1 (by omega)).trans rfl
      have hg2 := (flat4 (comV s) (comV_len s) cs k 2 hk1 (by omega)).trans rfl
      have hg3 := (flat4 (comV s) (comV_len s) cs k 3 hk1 (by omega)).trans rfl
      have hcell0 := (hbw.cell (p := ⟨b, off + k * 4, none⟩) hbb).trans (hc _ _ hg0)
      have hcell1 := (hbw.cell (p := ⟨b, off + (k * 4 + 1), none⟩) hbb).trans (hc _ _ hg1)
      have hcell2 := (hbw.cell (p := ⟨b, off + (k * 4 + 2), none⟩) hbb).trans (hc _ _ hg2)
      have hcell3 := (hbw.cell (p := ⟨b, off + (k * 4 + 3), none⟩) hbb).trans (hc _ _ hg3)
      rw [← Nat.add_assoc] at hcell1 hcell2 hcell3
      have Hnx := Lib.hid (com_take s cs k hk1)
      obtain ⟨x, y, z, hx⟩ : ∃ x y z, comV s cs[k] = [.string x, .int .i64 0, .int .i64 y, .int .i64 z] := ⟨_, _, _, rfl⟩
      have Hx := Lib.hid hx
      have hx0 : s.extract (cs[k].1 + 2) cs[k].2.1 = x := by injection hx with h _; injection h
      have hx1 : ((cs[k].1 : Nat) : Int) = y := by injection hx with _ h; injection h with _ h; injection h with h _; injection h
      have hx2 : ((cs[k].2.2 : Nat) : Int) = z := by injection hx with _ h; injection h with _ h; injection h with _ h; injection h with h _; injection h
      rw [hx0] at hcell0
      rw [hx1] at hcell2
      rw [hx2] at hcell3
      clear hg0 hg1 hg2 hg3 hc hx hx0 hx1 hx2
      obtain ⟨A2, c2, rfl⟩ := own_slice hown
      have Hown := Lib.hid hown
      have g63 : k + 1 ≤ maxLen := by simp only [maxLen]; omega
      have gby40 : (k + 1) * 40 ≤ 140737488355328 := by omega
      have hB := Lib.hid hbw.size
      have hbs : Hid (∀ o o', w.heap.size ≤ ((wr.alloc o).alloc o').heap.size) := fun o o' => by have := hB.out; simp; omega
      clear hown
      go_wp2_with (at_builtin; go_must (refine wpList_append_own _ rfl (.tmp 12) (.tmp 20) 28 rfl w.heap.size 38 j0 (.agg #[.string ⟨#[]⟩, .int .i64 0, .int .i64 0, .int .i64 0]) 4 40 Try.underlying28 hj0 hy0 hy1 hy2 rfl (by decide) _ _ _ rfl ((Hown.out.alloc _).alloc _) ⟨wr.heap.size + 1, 0, none⟩ 1 1 [.string x, .int .i64 0, .int .i64 y, .int .i64 z] rfl rfl (fun j u hu => four_new2 wr _ _ _ _ _ _ hu) (one_four _ _ _ _) g63 gby40 (hbs.out _ _) ?_); intro v2 w3 hown3 hgrow3 _)
      go_light
      refine ⟨⟨k + 1, by omega, by go_num, ?_, ?_⟩, by simp [intOf]; omega⟩
      · rw [← Hnx.out, Hx.out]
        exact hown3
      · exact ((hbw.alloc hB.out _).alloc (by have := hB.out; simp; omega) _).grown hgrow3 (hbs.out _ _) (fun q hq => (Hown.out.lt q hq).1)
    · obtain rfl : k = n := by omega
      have Hown := Lib.hid hown
      clear hown
      go_wp2
      go_ret
      refine ⟨_, rfl, ?_, hbw⟩
      have h1 := Hown.out
      rw [List.take_of_length_le (by have := Hlen.out; omega)] at h1
      exact h1

theorem eqCom_same (s : ByteArray) (cs : List (Nat × Nat × Nat)) (A A' : Option Addr) (n c d B B' : Nat) (w : World) (hn : n ≤ 40000)
    (h1 : Rd w B 4 A n (comCells s cs)) (h2 : Rd w B' 4 A' n (comCells s cs)) :
    Calls Try.prog 13 #[.slice A n c, .slice A' n d] w fun e w' => e = .returned (.bool true) ∧ ∃ q, w' = w.drewN q := by
  rcases Nat.eq_zero_or_pos n with rfl | hpos
  · clear h1 h2
    go_enter Try.func13, Try.ntmps13
    go_wp2
    go_loop [13] (fun i => i = .int .i64 0) (fun i => 0)
    case atStart => rfl
    case round =>
      subst hrel
      go_wp2
      go_ret
      exact ⟨rfl, 0, rfl⟩
  · obtain ⟨b, off, rfl, hb, hc⟩ := h1.pos hpos
    obtain ⟨b', off', rfl, hb', hc'⟩ := h2.pos hpos
    have hlen := Lib.hid h1.len
    clear h1 h2
    have Hc := Lib.hid hc
    have Hc' := Lib.hid hc'
    clear hc hc'
    go_enter Try.func13, Try.ntmps13
    go_wp2
    go_loopw [13] (fun i wr => ∃ k q : Nat, k ≤ n ∧ i = .int .i64 k ∧ wr = w.drewN q) (fun i _ => n - (intOf i).toNat)
    case atStart => exact ⟨0, 0, by omega, rfl, rfl⟩
    case round =>
      obtain ⟨k, q, hk, rfl, rfl⟩ := hrel
      by_cases hlt : k < n
      · have hk1 : k < cs.length := by have := hlen.out; unfold comCells at this; rw [flat4_len _ (comV_len s)] at this; omega
        have hg0 : (comCells s cs)[k * 4]? = some (.string (s.extract (cs[k].1 + 2) cs[k].2.1)) := flat4 (comV s) (comV_len s) cs k 0 hk1 (by omega)
        have hg1 : (comCells s cs)[k * 4 + 1]? = some (.int .i64 0) := flat4 (comV s) (comV_len s) cs k 1 hk1 (by omega)
        have hg2 : (comCells s cs)[k * 4 + 2]? = some (.int .i64 (cs[k].1 : Nat)) := flat4 (comV s) (comV_len s) cs k 2 hk1 (by omega)
        have hg3 : (comCells s cs)[k * 4 + 3]? = some (.int .i64 (cs[k].2.2 : Nat)) := flat4 (comV s) (comV_len s) cs k 3 hk1 (by omega)
        obtain ⟨x, hx⟩ : ∃ x, x = s.extract (cs[k].1 + 2) cs[k].2.1 := ⟨_, rfl⟩
        obtain ⟨y, hy⟩ : ∃ y : Nat, y = cs[k].1 := ⟨_, rfl⟩
        obtain ⟨z, hz⟩ : ∃ z : Nat, z = cs[k].2.2 := ⟨_, rfl⟩
        rw [← hx] at hg0
        rw [← hy] at hg2
        rw [← hz] at hg3
        clear hx hy hz
        have hcell0 := Hc.out _ _ hg0
        have hcell0' := Hc'.out _ _ hg0
        have hcell1 : w.cell? ⟨b, off + k * 4 + 1, none⟩ = _ := Hc.out _ _ hg1
        have hcell1' : w.cell? ⟨b', off' + k * 4 + 1, none⟩ = _ := Hc'.out _ _ hg1
        have hcell2 : w.cell? ⟨b, off + k * 4 + 2, none⟩ = _ := Hc.out _ _ hg2
        have hcell2' : w.cell? ⟨b', off' + k * 4 + 2, none⟩ = _ := Hc'.out _ _ hg2
        have hcell3 : w.cell? ⟨b, off + k * 4 + 3, none⟩ = _ := Hc.out _ _ hg3
        have hcell3' : w.cell? ⟨b', off' + k * 4 + 3, none⟩ = _ := Hc'.out _ _ hg3
        clear hg0 hg1 hg2 hg3
        go_wp2
        go_quiet (fail)
        go_wp2
        go_light
        refine ⟨⟨k + 1, _, by omega, by go_num, rfl⟩, by simp [intOf]; omega⟩
      · obtain rfl : k = n := by omega
        go_wp2
        go_ret
        exact ⟨rfl, q, rfl⟩
end Go.Proofs.Ytmekdghnkkephaa.Tok
