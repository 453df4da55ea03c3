/- The reference's lists: Join. -/
import Derived.Test.YtdffgkhlkbaecaaRTree2
import Derived.BigQuiet
namespace Go.Proofs.Ytdffgkhlkbaecaa.Tok
open Go.RowKit Go.Proofs.Ytdffgkhlkbaecaa
open Tr (Sorted CmpOk lows highs)

theorem joinB_nil (M : EntL) : joinB [] M = false := rfl
theorem joinB_nil2 (L : EntL) : joinB L [] = false := by
  unfold joinB
  cases L.getLast? <;> rfl
set_option maxHeartbeats 1600000 in
set_option maxRecDepth 8000 in
/-- Both lists one behind the other. -/
theorem rjoin_no (A A' : Option Addr) (n c n' c' : Nat) (L M : EntL) (w : World) (hn : n ≤ 1000) (hn' : n' ≤ 1000) (hr : Rd w w.heap.size 2 A n (L.flatMap enV)) (hr' : Rd w w.heap.size 2 A' n' (M.flatMap enV)) (hj : joinB L M = false) :
    Calls Try.prog 29 #[.slice A n c, .slice A' n' c'] w fun e w' => ∃ v, e = .returned (.tuple #[v, .bool true]) ∧ Hid (OwE w' v (L ++ M)) ∧ Hid (Below w.heap.size w w') := by
  obtain ⟨i0, hi0, iz0, iz1, iz2⟩ := info_parts infoEn
  have hlen := ent_len hr
  have hlen' := ent_len hr'
  have HRd : Hid (∀ W, Below w.heap.size w W → Rd W w.heap.size 2 A n (L.flatMap enV)) := fun W hb => hr.below hb
  have HRd' : Hid (∀ W, Below w.heap.size w W → Rd W w.heap.size 2 A' n' (M.flatMap enV)) := fun W hb => hr'.below hb
  have Hone := Lib.hid (en_one L)
  have Hone2 := Lib.hid (en_one M)
  have Hlen := Lib.hid hlen
  have Hlen' := Lib.hid hlen'
  have k1 : Hid (0 + n ≤ maxLen ∧ (0 + n) * 24 ≤ 140737488355328) := by
    refine ⟨?_, ?_⟩
    · simp only [maxLen]; omega
    · omega
  have k3 : Hid (L.length + n' ≤ maxLen ∧ (L.length + n') * 24 ≤ 140737488355328) := by
    refine ⟨?_, ?_⟩
    · simp only [maxLen]; omega
    · omega
  have hways : (n = 0) ∨ (0 < n ∧ n' = 0) ∨ (0 < n ∧ 0 < n' ∧ ∃ b off b' off' x y, A = some ⟨b, off, none⟩ ∧ A' = some ⟨b', off', none⟩ ∧ b < w.heap.size ∧ b' < w.heap.size ∧ w.cell? ⟨b, off + (n - 1) * 2, none⟩ = some (.string x) ∧ w.cell? ⟨b', off', none⟩ = some (.string y) ∧ Op.bytesLess x.toList y.toList = true) := by
    rcases Nat.eq_zero_or_pos n with h | h
    · exact .inl h
    rcases Nat.eq_zero_or_pos n' with h' | h'
    · exact .inr (.inl ⟨h, h'⟩)
    obtain ⟨b, off, rfl, hb, hc⟩ := hr.pos h
    obtain ⟨b', off', rfl, hb', hc'⟩ := hr'.pos h'
    have c1 := hc _ _ (en_at L (n - 1) (by omega)).1
    have c2 := hc' _ _ (en_at M 0 (by omega)).1
    rw [Nat.zero_mul, Nat.add_zero] at c2
    refine .inr (.inr ⟨h, h', b, off, b', off', _, _, rfl, rfl, hb, hb', c1, c2, ?_⟩)
    unfold joinB at hj
    rw [List.getLast?_eq_getElem?, List.getElem?_eq_getElem (by omega : L.length - 1 < L.length), List.getElem?_eq_getElem (by omega : 0 < M.length)] at hj
    simp only [decide_eq_false_iff_not] at hj
    have e1 : L[L.length - 1]'(by omega) = L[n - 1]'(by omega) := by congr 1; omega
    rw [e1] at hj
    rcases less_iff (L[n - 1]'(by omega)).1 (M[0]'(by omega)).1 with ⟨h1, _⟩ | ⟨_, h2⟩
    · exact h1
    · omega
  clear hr hr' hlen hlen' hj
  rcases hways with rfl | ⟨h0, rfl⟩ | ⟨h0, h0', b, off, b', off', x, y, rfl, rfl, hb, hb', c1, c2, hl⟩
  · go_enter Try.func29, Try.ntmps29
    go_wp2
    go_quiet (fail)
    generalize hwq : World.drewN w _ = wq
    have hbq : Below w.heap.size w wq := by subst hwq; exact below_drewN (Below.refl _ _) _
    have hzq : wq.heap.size = w.heap.size := by subst hwq; rfl
    have Hbq : Hid (∀ o, Below w.heap.size w (wq.alloc o)) := fun o => hbq.alloc hbq.size o
    have g0 := Lib.hid (GrE.start hbq)
    rw [hzq] at g0
    clear hwq
    go_wp2_with (first
      | (at_builtin; go_loud (refine wpList_append_rd _ rfl (.tmp 28) (.tmp 29) 33 rfl w.heap.size 73 i0 (.agg #[.string ⟨#[]⟩, .int .i64 0]) 2 24 Try.underlying33 hi0 iz0 iz1 iz2 rfl (by decide) _ _ _ rfl g0.out.own _ A 0 c _ rfl (HRd.out _ (Hbq.out _)) Hone.out k1.out.1 k1.out.2 g0.out.bel.size ?_); intro v1 w1 hown1 hgrow1; have g1 := Lib.hid (g0.out.app hown1 Hlen.out hgrow1); rw [List.nil_append] at g1; clear hown1 hgrow1 g0)
      | (at_builtin; go_loud (refine wpList_append_rd _ rfl (.tmp 30) (.tmp 31) 33 rfl w.heap.size 73 i0 (.agg #[.string ⟨#[]⟩, .int .i64 0]) 2 24 Try.underlying33 hi0 iz0 iz1 iz2 rfl (by decide) _ _ _ rfl g1.out.own _ A' n' c' _ rfl (HRd'.out _ g1.out.bel) Hone2.out k3.out.1 k3.out.2 g1.out.bel.size ?_); intro v2 w2 hown2 hgrow2; have g2 := Lib.hid (g1.out.app hown2 Hlen'.out hgrow2); clear hown2 hgrow2 g1))
    go_ret2
    exact ⟨v2, rfl, g2.out.owE, g2.out.bel⟩
  · have g1 : decide ((0 : Int) < (n : Int)) = true := decide_eq_true (by omega)
    go_enter Try.func29, Try.ntmps29
    go_wp2
    go_quiet (fail)
    generalize hwq : World.drewN w _ = wq
    have hbq : Below w.heap.size w wq := by subst hwq; exact below_drewN (Below.refl _ _) _
    have hzq : wq.heap.size = w.heap.size := by subst hwq; rfl
    have Hbq : Hid (∀ o, Below w.heap.size w (wq.alloc o)) := fun o => hbq.alloc hbq.size o
    have g0 := Lib.hid (GrE.start hbq)
    rw [hzq] at g0
    clear hwq
    go_wp2_with (first
      | (at_builtin; go_loud (refine wpList_append_rd _ rfl (.tmp 28) (.tmp 29) 33 rfl w.heap.size 73 i0 (.agg #[.string ⟨#[]⟩, .int .i64 0]) 2 24 Try.underlying33 hi0 iz0 iz1 iz2 rfl (by decide) _ _ _ rfl g0.out.own _ A n c _ rfl (HRd.out _ (Hbq.out _)) Hone.out k1.out.1 k1.out.2 g0.out.bel.size ?_); intro v1 w1 hown1 hgrow1; have g1 := Lib.hid (g0.out.app hown1 Hlen.out hgrow1); rw [List.nil_append] at g1; clear hown1 hgrow1 g0)
      | (at_builtin; go_loud (refine wpList_append_rd _ rfl (.tmp 30) (.tmp 31) 33 rfl w.heap.size 73 i0 (.agg #[.string ⟨#[]⟩, .int .i64 0]) 2 24 Try.underlying33 hi0 iz0 iz1 iz2 rfl (by decide) _ _ _ rfl g1.out.own _ A' 0 c' _ rfl (HRd'.out _ g1.out.bel) Hone2.out k3.out.1 k3.out.2 g1.out.bel.size ?_); intro v2 w2 hown2 hgrow2; have g2 := Lib.hid (g1.out.app hown2 Hlen'.out hgrow2); clear hown2 hgrow2 g1))
    go_ret2
    exact ⟨v2, rfl, g2.out.owE, g2.out.bel⟩
  · have g1 : decide ((0 : Int) < (n : Int)) = true := decide_eq_true (by omega)
    have g2 : decide ((0 : Int) < (n' : Int)) = true := decide_eq_true (by omega)
    have hw1 : IntKind.i64.wrap ((n : Int) - 1) = ((n - 1 : Nat) : Int) := (IntWalk.i64_in _ (by omega)).trans (by omega)
    have hw2 : ((n : Int) - 1).toNat = n - 1 := by omega
    have hw3 : (0 : Int) ≤ (n : Int) - 1 ∧ (n : Int) - 1 < (n : Int) := by omega
    go_enter Try.func29, Try.ntmps29
    go_wp2
    go_quiet (fail)
    generalize hwq : World.drewN w _ = wq
    have hbq : Below w.heap.size w wq := by subst hwq; exact below_drewN (Below.refl _ _) _
    have hzq : wq.heap.size = w.heap.size := by subst hwq; rfl
    have Hbq : Hid (∀ o, Below w.heap.size w (wq.alloc o)) := fun o => hbq.alloc hbq.size o
    have g0 := Lib.hid (GrE.start hbq)
    rw [hzq] at g0
    clear hwq c1 c2 hl g1 g2
    go_wp2_with (first
      | (at_builtin; go_loud (refine wpList_append_rd _ rfl (.tmp 28) (.tmp 29) 33 rfl w.heap.size 73 i0 (.agg #[.string ⟨#[]⟩, .int .i64 0]) 2 24 Try.underlying33 hi0 iz0 iz1 iz2 rfl (by decide) _ _ _ rfl g0.out.own _ (some ⟨b, off, none⟩) n c _ rfl (HRd.out _ (Hbq.out _)) Hone.out k1.out.1 k1.out.2 g0.out.bel.size ?_); intro v1 w1 hown1 hgrow1; have g1 := Lib.hid (g0.out.app hown1 Hlen.out hgrow1); rw [List.nil_append] at g1; clear hown1 hgrow1 g0)
      | (at_builtin; go_loud (refine wpList_append_rd _ rfl (.tmp 30) (.tmp 31) 33 rfl w.heap.size 73 i0 (.agg #[.string ⟨#[]⟩, .int .i64 0]) 2 24 Try.underlying33 hi0 iz0 iz1 iz2 rfl (by decide) _ _ _ rfl g1.out.own _ (some ⟨b', off', none⟩) n' c' _ rfl (HRd'.out _ g1.out.bel) Hone2.out k3.out.1 k3.out.2 g1.out.bel.size ?_); intro v2 w2 hown2 hgrow2; have g2 := Lib.hid (g1.out.app hown2 Hlen'.out hgrow2); clear hown2 hgrow2 g1))
    go_ret2
    exact ⟨v2, rfl, g2.out.owE, g2.out.bel⟩
set_option maxHeartbeats 1600000 in
set_option maxRecDepth 8000 in
/-- Lists that are not apart. -/
theorem rjoin_yes (A A' : Option Addr) (n c n' c' : Nat) (L M : EntL) (w : World) (hn : n ≤ 1000) (hn' : n' ≤ 1000) (hr : Rd w w.heap.size 2 A n (L.flatMap enV)) (hr' : Rd w w.heap.size 2 A' n' (M.flatMap enV)) (hj : joinB L M = true) :
    Calls Try.prog 29 #[.slice A n c, .slice A' n' c'] w fun e w' => e = .returned (.tuple #[.slice none 0 0, .bool false]) ∧ Hid (Below w.heap.size w w') := by
  have hlen := ent_len hr
  have hlen' := ent_len hr'
  have hways : (0 < n ∧ 0 < n' ∧ ∃ b off b' off' x y, A = some ⟨b, off, none⟩ ∧ A' = some ⟨b', off', none⟩ ∧ b < w.heap.size ∧ b' < w.heap.size ∧ w.cell? ⟨b, off + (n - 1) * 2, none⟩ = some (.string x) ∧ w.cell? ⟨b', off', none⟩ = some (.string y) ∧ Op.bytesLess x.toList y.toList = false) := by
    rcases Nat.eq_zero_or_pos n with h | h
    · obtain rfl : L = [] := List.eq_nil_of_length_eq_zero (by omega)
      rw [joinB_nil] at hj
      cases hj
    rcases Nat.eq_zero_or_pos n' with h' | h'
    · obtain rfl : M = [] := List.eq_nil_of_length_eq_zero (by omega)
      rw [joinB_nil2] at hj
      cases hj
    obtain ⟨b, off, rfl, hb, hc⟩ := hr.pos h
    obtain ⟨b', off', rfl, hb', hc'⟩ := hr'.pos h'
    have c1 := hc _ _ (en_at L (n - 1) (by omega)).1
    have c2 := hc' _ _ (en_at M 0 (by omega)).1
    rw [Nat.zero_mul, Nat.add_zero] at c2
    refine ⟨h, h', b, off, b', off', _, _, rfl, rfl, hb, hb', c1, c2, ?_⟩
    unfold joinB at hj
    rw [List.getLast?_eq_getElem?, List.getElem?_eq_getElem (by omega : L.length - 1 < L.length), List.getElem?_eq_getElem (by omega : 0 < M.length)] at hj
    simp only [decide_eq_true_eq] at hj
    have e1 : L[L.length - 1]'(by omega) = L[n - 1]'(by omega) := by congr 1; omega
    rw [e1] at hj
    rcases less_iff (L[n - 1]'(by omega)).1 (M[0]'(by omega)).1 with ⟨_, h1⟩ | ⟨h2, _⟩
    · omega
    · exact h2
  clear hr hr' hlen hlen' hj
  obtain ⟨h0, h0', b, off, b', off', x, y, rfl, rfl, hb, hb', c1, c2, hl⟩ := hways
  have g1 : decide ((0 : Int) < (n : Int)) = true := decide_eq_true (by omega)
  have g2 : decide ((0 : Int) < (n' : Int)) = true := decide_eq_true (by omega)
  have hw1 : IntKind.i64.wrap ((n : Int) - 1) = ((n - 1 : Nat) : Int) := (IntWalk.i64_in _ (by omega)).trans (by omega)
  have hw2 : ((n : Int) - 1).toNat = n - 1 := by omega
  have hw3 : (0 : Int) ≤ (n : Int) - 1 ∧ (n : Int) - 1 < (n : Int) := by omega
  go_enter Try.func29, Try.ntmps29
  go_wp2
  go_quiet (fail)
  go_wp2
  go_ret2
  exact ⟨rfl, below_drewN (Below.refl _ _) _⟩
end Go.Proofs.Ytdffgkhlkbaecaa.Tok
