/- Contracts of join, pop and concat. -/
import Derived.Test.YtdffgkhlkbaecaaITreeBal
namespace Go.Proofs.Ytdffgkhlkbaecaa.Tok
open Go.RowKit Go.Proofs.Ytdffgkhlkbaecaa
attribute [local go_sem ↓] Go.wp_at_zero Go.wp_at_succ

set_option maxHeartbeats 3200000 in
set_option maxRecDepth 8000 in
theorem joinS_nI (k : Int) (x : Int) : ∀ (n : Nat) (lv nv rv : Option Addr) (l r : Tr Int) (w : World), Is (Value.int .i64) 86 w lv l → Hd w nv (.int .i64 k) x → Is (Value.int .i64) 86 w rv r → l.size + r.size ≤ n → n ≤ 1000000 →
    Calls Try.prog 38 #[.pointer lv, .pointer nv, .pointer rv] w (MakesI (Value.int .i64) 86 w (Tr.join l k x r)) := by
  intro n
  induction n with
  | zero =>
    intro lv nv rv l r w hl hn hr hs hm
    have h1 : l.height ≤ l.size := l.height_le
    have h2 : r.height ≤ r.size := r.height_le
    rw [Tr.join_mid (by omega) (by omega)]
    have HA := Lib.hid (aboveS_anyI lv nv rv l r k x w hl hn hr (by omega))
    have Hhl := Lib.hid (heightS_anyI lv l w hl)
    have Hhr := Lib.hid (heightS_anyI rv r w hr)
    clear hl hn hr
    rw [show l.height = 0 by omega] at Hhl
    rw [show r.height = 0 by omega] at Hhr
    clear h1 h2 hs hm
    go_enter Try.func38, Try.ntmps38
    go_wp2_with fail
    refine (Hhl.out).mono ?_
    rintro e w' ⟨rfl, hw⟩; obtain rfl := hw.symm; clear hw
    go_wp2_with fail
    refine (Hhr.out).mono ?_
    rintro e w' ⟨rfl, hw⟩; obtain rfl := hw.symm; clear hw
    go_wp2_with fail
    refine (HA.out).mono ?_
    rintro e w1 ⟨p, rfl, h1, hb1⟩
    go_wp2
    go_ret
    exact ⟨_, rfl, h1, hb1⟩
  | succ n ih =>
    intro lv nv rv l r w hl hn hr hs hm
    have IH := Lib.hid ih
    clear ih
    have hlh := l.height_le
    have hrh := r.height_le
    have Hhl := Lib.hid (heightS_anyI lv l w hl)
    have Hhr := Lib.hid (heightS_anyI rv r w hr)
    obtain ⟨a1, e1⟩ : ∃ n, n = l.height := ⟨_, rfl⟩
    obtain ⟨a2, e2⟩ : ∃ n, n = r.height := ⟨_, rfl⟩
    by_cases hd1 : r.height + 1 < l.height
    · cases l with
      | nil => simp [Tr.height] at hd1
      | node lk lx ll lr =>
        obtain ⟨b, lp, rp, rfl, hbl, c0, c1, c2, c3, c4, c5, h2, h3⟩ := hl.node
        rw [Tr.join_left hd1]
        simp only [Tr.size] at hs hlh
        have HA1 : Hid (∀ wq, Below w.heap.size w wq → Calls Try.prog 38 #[.pointer rp, .pointer nv, .pointer rv] wq (MakesI (Value.int .i64) 86 wq (Tr.join lr k x r))) := fun wq hb =>
          IH.out rp nv rv lr r wq (h3.below hb) (hn.below hb) (hr.below hb) (by omega) (by omega)
        have HZ : Hid (∀ wq p, Below w.heap.size w wq → Is (Value.int .i64) 86 wq p (Tr.join lr k x r) → Calls Try.prog 55 #[.pointer lp, .pointer (some ⟨b, 0, none⟩), .pointer p] wq (MakesI (Value.int .i64) 86 wq (Tr.bal ll lk lx (Tr.join lr k x r)))) := fun wq p hb hp =>
          balS_anyI lp (some ⟨b, 0, none⟩) p ll (Tr.join lr k x r) lk lx wq (h2.below hb) (hl.hd.below hb) hp (by rw [Tr.size_join]; omega)
        have HT : Hid (∀ w1, Below w.drew.heap.size w.drew w1 → Below w.heap.size w w1 ∧ (w1.cell? ⟨b, 2, none⟩ = some (.pointer lp) ∧ w1.cell? ⟨b, 3, none⟩ = some (.pointer rp))) := fun w1 h =>
          have h' : Below w.heap.size w w1 := (Below.refl _ _).drew.trans h
          ⟨h', (h'.cell (p := ⟨b, 2, none⟩) hbl).trans c2, (h'.cell (p := ⟨b, 3, none⟩) hbl).trans c3⟩
        have HT2 : Hid (∀ w1 w2, Below w.heap.size w w1 → Below w1.heap.size w1 w2 → Below w.heap.size w w2 ∧ (w2.cell? ⟨b, 2, none⟩ = some (.pointer lp) ∧ w2.cell? ⟨b, 3, none⟩ = some (.pointer rp))) := fun w1 w2 h h2 =>
          have h' : Below w.heap.size w w2 := h.trans (h2.mono h.size)
          ⟨h', (h'.cell (p := ⟨b, 2, none⟩) hbl).trans c2, (h'.cell (p := ⟨b, 3, none⟩) hbl).trans c3⟩
        clear hl hn hr h2 h3 c0 c1 c4 c5 IH
        rw [← e1] at hd1 Hhl hlh
        rw [← e2] at hd1 Hhr hrh
        clear e1 e2
        have g1 : a1 ≤ 2000000 := by omega
        have g2 : a2 ≤ 2000000 := by omega
        clear hlh hrh hs hm
        go_enter Try.func38, Try.ntmps38
        go_wp2_with fail
        refine (Hhl.out).mono ?_
        rintro e w' ⟨rfl, hw⟩; obtain rfl := hw.symm; clear hw
        go_wp2_with fail
        refine (Hhr.out).mono ?_
        rintro e w' ⟨rfl, hw⟩; obtain rfl := hw.symm; clear hw
        go_wp2_with fail
        go_region_held3 (fun w' => w'.cell? ⟨b, 2, none⟩ = some (.pointer lp) ∧ w'.cell? ⟨b, 3, none⟩ = some (.pointer rp)) (first | exact ⟨c2, c3⟩ | exact cb2 | exact cb1)
          (first
            | (go_at_call 38; (with_reducible refine (HA1.out _ (Below.refl _ _).drew).mono ?_); rintro e w1 ⟨p1, rfl, h1, hb1'⟩; obtain ⟨hb1, cb1⟩ := HT.out _ hb1')
            | (go_at_call 55; (with_reducible refine (HZ.out _ _ hb1 h1).mono ?_); rintro e w2 ⟨p2, rfl, h2, hb2'⟩; obtain ⟨hb2, cb2⟩ := HT2.out _ _ hb1 hb2'))
        all_goals go_wp2
        go_ret
        exact ⟨_, rfl, h2, hb2⟩
    · by_cases hd2 : l.height + 1 < r.height
      · cases r with
        | nil => simp [Tr.height] at hd2
        | node rk rx rl rr =>
          obtain ⟨b, lp, rp, rfl, hbl, c0, c1, c2, c3, c4, c5, h2, h3⟩ := hr.node
          rw [Tr.join_right hd2]
          simp only [Tr.size] at hs hrh
          have HA1 : Hid (∀ wq, Below w.heap.size w wq → Calls Try.prog 38 #[.pointer lv, .pointer nv, .pointer lp] wq (MakesI (Value.int .i64) 86 wq (Tr.join l k x rl))) := fun wq hb =>
            IH.out lv nv lp l rl wq (hl.below hb) (hn.below hb) (h2.below hb) (by omega) (by omega)
          have HZ : Hid (∀ wq p, Below w.heap.size w wq → Is (Value.int .i64) 86 wq p (Tr.join l k x rl) → Calls Try.prog 55 #[.pointer p, .pointer (some ⟨b, 0, none⟩), .pointer rp] wq (MakesI (Value.int .i64) 86 wq (Tr.bal (Tr.join l k x rl) rk rx rr))) := fun wq p hb hp =>
            balS_anyI p (some ⟨b, 0, none⟩) rp (Tr.join l k x rl) rr rk rx wq hp (hr.hd.below hb) (h3.below hb) (by rw [Tr.size_join]; omega)
          have HT : Hid (∀ w1, Below w.drew.heap.size w.drew w1 → Below w.heap.size w w1 ∧ (w1.cell? ⟨b, 2, none⟩ = some (.pointer lp) ∧ w1.cell? ⟨b, 3, none⟩ = some (.pointer rp))) := fun w1 h =>
            have h' : Below w.heap.size w w1 := (Below.refl _ _).drew.trans h
            ⟨h', (h'.cell (p := ⟨b, 2, none⟩) hbl).trans c2, (h'.cell (p := ⟨b, 3, none⟩) hbl).trans c3⟩
          have HT2 : Hid (∀ w1 w2, Below w.heap.size w w1 → Below w1.heap.size w1 w2 → Below w.heap.size w w2 ∧ (w2.cell? ⟨b, 2, none⟩ = some (.pointer lp) ∧ w2.cell? ⟨b, 3, none⟩ = some (.pointer rp))) := fun w1 w2 h h2 =>
            have h' : Below w.heap.size w w2 := h.trans (h2.mono h.size)
            ⟨h', (h'.cell (p := ⟨b, 2, none⟩) hbl).trans c2, (h'.cell (p := ⟨b, 3, none⟩) hbl).trans c3⟩
          clear hl hn hr h2 h3 c0 c1 c4 c5 IH
          rw [← e1] at hd1 hd2 Hhl hlh
          rw [← e2] at hd1 hd2 Hhr hrh
          clear e1 e2
          have g1 : a1 ≤ 2000000 := by omega
          have g2 : a2 ≤ 2000000 := by omega
          clear hlh hrh hs hm
          go_enter Try.func38, Try.ntmps38
          go_wp2_with fail
          refine (Hhl.out).mono ?_
          rintro e w' ⟨rfl, hw⟩; obtain rfl := hw.symm; clear hw
          go_wp2_with fail
          refine (Hhr.out).mono ?_
          rintro e w' ⟨rfl, hw⟩; obtain rfl := hw.symm; clear hw
          go_wp2_with fail
          go_region_held3 (fun w' => w'.cell? ⟨b, 2, none⟩ = some (.pointer lp) ∧ w'.cell? ⟨b, 3, none⟩ = some (.pointer rp)) (first | exact ⟨c2, c3⟩ | exact cb2 | exact cb1)
            (first
              | (go_at_call 38; (with_reducible refine (HA1.out _ (Below.refl _ _).drew).mono ?_); rintro e w1 ⟨p1, rfl, h1, hb1'⟩; obtain ⟨hb1, cb1⟩ := HT.out _ hb1')
              | (go_at_call 55; (with_reducible refine (HZ.out _ _ hb1 h1).mono ?_); rintro e w2 ⟨p2, rfl, h2, hb2'⟩; obtain ⟨hb2, cb2⟩ := HT2.out _ _ hb1 hb2'))
          all_goals go_wp2
          go_ret
          exact ⟨_, rfl, h2, hb2⟩
      · rw [Tr.join_mid (by omega) (by omega)]
        have HA := Lib.hid (aboveS_anyI lv nv rv l r k x w hl hn hr (by omega))
        clear hl hn hr IH
        rw [← e1] at hd1 hd2 Hhl hlh
        rw [← e2] at hd1 hd2 Hhr hrh
        clear e1 e2
        have g1 : a1 ≤ 2000000 := by omega
        have g2 : a2 ≤ 2000000 := by omega
        clear hlh hrh hs hm
        go_enter Try.func38, Try.ntmps38
        go_wp2_with fail
        refine (Hhl.out).mono ?_
        rintro e w' ⟨rfl, hw⟩; obtain rfl := hw.symm; clear hw
        go_wp2_with fail
        refine (Hhr.out).mono ?_
        rintro e w' ⟨rfl, hw⟩; obtain rfl := hw.symm; clear hw
        go_wp2_with fail
        refine (HA.out).mono ?_
        rintro e w1 ⟨p, rfl, h1, hb1⟩
        go_wp2
        go_ret
        exact ⟨_, rfl, h1, hb1⟩
theorem joinS_anyI (lv nv rv : Option Addr) (l r : Tr Int) (k : Int) (x : Int) (w : World) (hl : Is (Value.int .i64) 86 w lv l) (hn : Hd w nv (.int .i64 k) x) (hr : Is (Value.int .i64) 86 w rv r) (hs : l.size + r.size ≤ 1000000) :
    Calls Try.prog 38 #[.pointer lv, .pointer nv, .pointer rv] w (MakesI (Value.int .i64) 86 w (Tr.join l k x r)) := joinS_nI k x _ lv nv rv l r w hl hn hr (Nat.le_refl _) hs
end Go.Proofs.Ytdffgkhlkbaecaa.Tok
