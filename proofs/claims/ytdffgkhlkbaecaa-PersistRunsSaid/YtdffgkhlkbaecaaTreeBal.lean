/- Contract of balance. -/
import Derived.Test.YtdffgkhlkbaecaaTreeS
import Derived.Deep.RegionHeld3
import Derived.Deep.DrawnRows
namespace Go.Proofs.Ytdffgkhlkbaecaa.Tok
open Go.RowKit Go.Proofs.Ytdffgkhlkbaecaa
attribute [local go_sem ↓] Go.wp_at_zero Go.wp_at_succ

set_option maxHeartbeats 1600000 in
set_option maxRecDepth 8000 in
theorem bal1S (b : Nat) (lp rp nv ov : Option Addr) (ll lr o : Tr ByteArray) (lk k : ByteArray) (lx x : Int) (w : World) (hl : Is Value.string 98 w (some ⟨b, 0, none⟩) (.node lk lx ll lr)) (c2 : w.cell? ⟨b, 2, none⟩ = some (.pointer lp)) (c3 : w.cell? ⟨b, 3, none⟩ = some (.pointer rp)) (h2 : Is Value.string 98 w lp ll) (h3 : Is Value.string 98 w rp lr)
    (hn : Hd w nv (Value.string k) x) (ho : Is Value.string 98 w ov o) (hs : (Tr.node lk lx ll lr).size + o.size ≤ 1000000) (hh : (Tr.node lk lx ll lr).height = o.height + 2) (hh2 : lr.height ≤ ll.height) :
    Calls Try.prog 59 #[.pointer (some ⟨b, 0, none⟩), .pointer nv, .pointer ov] w (Makes Value.string 98 w (.node lk lx ll (.node k x lr o))) := by
  have hbl : b < w.heap.size := hl.pos
  simp only [Tr.size] at hs
  have hlh := (Tr.node lk lx ll lr).height_le
  have hrh := o.height_le
  simp only [Tr.size] at hlh
  have HA1 : Hid (∀ wq, Below w.heap.size w wq → Calls Try.prog 60 #[.pointer rp, .pointer nv, .pointer ov] wq (Makes Value.string 98 wq (.node k x lr o))) := fun wq hb =>
    aboveS_any rp nv ov lr o k x wq (h3.below hb) (hn.below hb) (ho.below hb) (by omega)
  have HZ : Hid (∀ wq p, Below w.heap.size w wq → Is Value.string 98 wq p (.node k x lr o) → Calls Try.prog 60 #[.pointer lp, .pointer (some ⟨b, 0, none⟩), .pointer p] wq (Makes Value.string 98 wq (.node lk lx ll (.node k x lr o)))) := fun wq p hb hp =>
    aboveS_any lp (some ⟨b, 0, none⟩) p ll (.node k x lr o) lk lx wq (h2.below hb) (hl.hd.below hb) hp (by simp only [Tr.size]; omega)
  have HT : Hid (∀ w1, Below w.drew.heap.size w.drew w1 → Below w.heap.size w w1 ∧ (w1.cell? ⟨b, 2, none⟩ = some (.pointer lp))) := fun w1 h =>
    have h' : Below w.heap.size w w1 := (Below.refl _ _).drew.trans h
    ⟨h', (h'.cell (p := ⟨b, 2, none⟩) hbl).trans c2⟩
  have HT2 : Hid (∀ w1 w2, Below w.heap.size w w1 → Below w1.heap.size w1 w2 → Below w.heap.size w w2 ∧ (w2.cell? ⟨b, 2, none⟩ = some (.pointer lp))) := fun w1 w2 h h2 =>
    have h' : Below w.heap.size w w2 := h.trans (h2.mono h.size)
    ⟨h', (h'.cell (p := ⟨b, 2, none⟩) hbl).trans c2⟩
  have Hhl := Lib.hid (heightS_any (some ⟨b, 0, none⟩) (.node lk lx ll lr) w hl)
  have Hhr := Lib.hid (heightS_any ov o w ho)
  have Hh2 := Lib.hid (heightS_any lp ll w h2)
  have Hh3 := Lib.hid (heightS_any rp lr w h3)
  clear hl hn ho h2 h3
  obtain ⟨a1, e1⟩ : ∃ n, n = (Tr.node lk lx ll lr).height := ⟨_, rfl⟩
  obtain ⟨a2, e2⟩ : ∃ n, n = o.height := ⟨_, rfl⟩
  obtain ⟨a3, e3⟩ : ∃ n, n = ll.height := ⟨_, rfl⟩
  obtain ⟨a4, e4⟩ : ∃ n, n = lr.height := ⟨_, rfl⟩
  rw [← e1] at hh hlh Hhl
  rw [← e2] at hh hrh Hhr
  rw [← e3] at hh2 Hh2
  rw [← e4] at hh2 Hh3
  clear e1 e2 e3 e4
  have g1 : a1 ≤ 2000000 := by omega
  have g2 : a2 ≤ 2000000 := by omega
  have t1 : ((a1 : Int) - (a2 : Int) == 2) = true := by rw [beq_iff_eq]; omega
  have t2 : decide (a4 ≤ a3) = true := by rw [decide_eq_true_iff]; omega
  clear hh hlh hrh hs hh2
  go_enter Try.func59, Try.ntmps59
  go_wp2_with fail
  refine (Hhl.out).mono ?_
  rintro e w' ⟨rfl, hw⟩; obtain rfl := hw.symm; clear hw
  go_wp2_with fail
  refine (Hhr.out).mono ?_
  rintro e w' ⟨rfl, hw⟩; obtain rfl := hw.symm; clear hw
  go_wp2_with fail
  refine (Hh2.out).mono ?_
  rintro e w' ⟨rfl, hw⟩; obtain rfl := hw.symm; clear hw
  go_wp2_with fail
  refine (Hh3.out).mono ?_
  rintro e w' ⟨rfl, hw⟩; obtain rfl := hw.symm; clear hw
  go_wp2_with fail
  go_region_held3 (fun w' => w'.cell? ⟨b, 2, none⟩ = some (.pointer lp)) (first | exact c2 | exact cb2 | exact cb1)
    (first
      | (go_at_call 60; (with_reducible refine (HA1.out _ (Below.refl _ _).drew).mono ?_); rintro e w1 ⟨p1, rfl, h1, hb1'⟩; obtain ⟨hb1, cb1⟩ := HT.out _ hb1')
      | (go_at_call 60; (with_reducible refine (HZ.out _ _ hb1 h1).mono ?_); rintro e w2 ⟨p2, rfl, h2, hb2'⟩; obtain ⟨hb2, cb2⟩ := HT2.out _ _ hb1 hb2'))
  all_goals go_wp2
  go_ret
  exact ⟨_, rfl, h2, hb2⟩

set_option maxHeartbeats 1600000 in
set_option maxRecDepth 8000 in
theorem bal2S (b : Nat) (lp rp nv ov : Option Addr) (ll lr o : Tr ByteArray) (lk k : ByteArray) (lx x : Int) (w : World) (hl : Is Value.string 98 w (some ⟨b, 0, none⟩) (.node lk lx ll lr)) (c2 : w.cell? ⟨b, 2, none⟩ = some (.pointer lp)) (c3 : w.cell? ⟨b, 3, none⟩ = some (.pointer rp)) (h2 : Is Value.string 98 w lp ll) (h3 : Is Value.string 98 w rp lr) (ik : ByteArray) (ix : Int) (il ir : Tr ByteArray) (hi : lr = .node ik ix il ir)
    (hn : Hd w nv (Value.string k) x) (ho : Is Value.string 98 w ov o) (hs : (Tr.node lk lx ll lr).size + o.size ≤ 1000000) (hh : (Tr.node lk lx ll lr).height = o.height + 2) (hh2 : ¬ lr.height ≤ ll.height) :
    Calls Try.prog 59 #[.pointer (some ⟨b, 0, none⟩), .pointer nv, .pointer ov] w (Makes Value.string 98 w (.node ik ix (.node lk lx ll il) (.node k x ir o))) := by
  have hbl : b < w.heap.size := hl.pos
  simp only [Tr.size] at hs
  have hlh := (Tr.node lk lx ll lr).height_le
  have hrh := o.height_le
  simp only [Tr.size] at hlh
  subst hi
  simp only [Tr.size] at hs hlh
  obtain ⟨b2, ilp, irp, rfl, hb2l, _, _, d2, d3, _, _, h4, h5⟩ := Is.node h3
  have HA1 : Hid (∀ wq, Below w.heap.size w wq → Calls Try.prog 60 #[.pointer lp, .pointer (some ⟨b, 0, none⟩), .pointer ilp] wq (Makes Value.string 98 wq (.node lk lx ll il))) := fun wq hb =>
    aboveS_any lp (some ⟨b, 0, none⟩) ilp ll il lk lx wq (h2.below hb) (hl.hd.below hb) (h4.below hb) (by omega)
  have HA2 : Hid (∀ wq, Below w.heap.size w wq → Calls Try.prog 60 #[.pointer irp, .pointer nv, .pointer ov] wq (Makes Value.string 98 wq (.node k x ir o))) := fun wq hb =>
    aboveS_any irp nv ov ir o k x wq (h5.below hb) (hn.below hb) (ho.below hb) (by omega)
  have HZ : Hid (∀ wq p p2, Below w.heap.size w wq → Is Value.string 98 wq p (.node lk lx ll il) → Is Value.string 98 wq p2 (.node k x ir o) → Calls Try.prog 60 #[.pointer p, .pointer (some ⟨b2, 0, none⟩), .pointer p2] wq (Makes Value.string 98 wq (.node ik ix (.node lk lx ll il) (.node k x ir o)))) := fun wq p p2 hb hp hp2 =>
    aboveS_any p (some ⟨b2, 0, none⟩) p2 (.node lk lx ll il) (.node k x ir o) ik ix wq hp (h3.hd.below hb) hp2 (by simp only [Tr.size]; omega)
  have HT : Hid (∀ w1, Below w.drew.heap.size w.drew w1 → Below w.heap.size w w1 ∧ (w1.cell? ⟨b, 2, none⟩ = some (.pointer lp) ∧ w1.cell? ⟨b2, 2, none⟩ = some (.pointer ilp) ∧ w1.cell? ⟨b2, 3, none⟩ = some (.pointer irp))) := fun w1 h =>
    have h' : Below w.heap.size w w1 := (Below.refl _ _).drew.trans h
    ⟨h', ⟨(h'.cell (p := ⟨b, 2, none⟩) hbl).trans c2, (h'.cell (p := ⟨b2, 2, none⟩) hb2l).trans d2, (h'.cell (p := ⟨b2, 3, none⟩) hb2l).trans d3⟩⟩
  have HT2 : Hid (∀ w1 w2, Below w.heap.size w w1 → Below w1.heap.size w1 w2 → Below w.heap.size w w2 ∧ (w2.cell? ⟨b, 2, none⟩ = some (.pointer lp) ∧ w2.cell? ⟨b2, 2, none⟩ = some (.pointer ilp) ∧ w2.cell? ⟨b2, 3, none⟩ = some (.pointer irp))) := fun w1 w2 h h2 =>
    have h' : Below w.heap.size w w2 := h.trans (h2.mono h.size)
    ⟨h', ⟨(h'.cell (p := ⟨b, 2, none⟩) hbl).trans c2, (h'.cell (p := ⟨b2, 2, none⟩) hb2l).trans d2, (h'.cell (p := ⟨b2, 3, none⟩) hb2l).trans d3⟩⟩
  have Hhl := Lib.hid (heightS_any (some ⟨b, 0, none⟩) (.node lk lx ll (.node ik ix il ir)) w hl)
  have Hhr := Lib.hid (heightS_any ov o w ho)
  have Hh2 := Lib.hid (heightS_any lp ll w h2)
  have Hh3 := Lib.hid (heightS_any (some ⟨b2, 0, none⟩) (.node ik ix il ir) w h3)
  clear hl hn ho h2 h3 h4 h5
  obtain ⟨a1, e1⟩ : ∃ n, n = (Tr.node lk lx ll (.node ik ix il ir)).height := ⟨_, rfl⟩
  obtain ⟨a2, e2⟩ : ∃ n, n = o.height := ⟨_, rfl⟩
  obtain ⟨a3, e3⟩ : ∃ n, n = ll.height := ⟨_, rfl⟩
  obtain ⟨a4, e4⟩ : ∃ n, n = (Tr.node ik ix il ir).height := ⟨_, rfl⟩
  rw [← e1] at hh hlh Hhl
  rw [← e2] at hh hrh Hhr
  rw [← e3] at hh2 Hh2
  rw [← e4] at hh2 Hh3
  clear e1 e2 e3 e4
  have g1 : a1 ≤ 2000000 := by omega
  have g2 : a2 ≤ 2000000 := by omega
  have t1 : ((a1 : Int) - (a2 : Int) == 2) = true := by rw [beq_iff_eq]; omega
  have t2 : decide (a4 ≤ a3) = false := by rw [decide_eq_false_iff_not]; omega
  clear hh hlh hrh hs hh2
  go_enter Try.func59, Try.ntmps59
  go_wp2_with fail
  refine (Hhl.out).mono ?_
  rintro e w' ⟨rfl, hw⟩; obtain rfl := hw.symm; clear hw
  go_wp2_with fail
  refine (Hhr.out).mono ?_
  rintro e w' ⟨rfl, hw⟩; obtain rfl := hw.symm; clear hw
  go_wp2_with fail
  refine (Hh2.out).mono ?_
  rintro e w' ⟨rfl, hw⟩; obtain rfl := hw.symm; clear hw
  go_wp2_with fail
  refine (Hh3.out).mono ?_
  rintro e w' ⟨rfl, hw⟩; obtain rfl := hw.symm; clear hw
  go_wp2_with fail
  go_region_held3 (fun w' => w'.cell? ⟨b, 2, none⟩ = some (.pointer lp) ∧ w'.cell? ⟨b2, 2, none⟩ = some (.pointer ilp) ∧ w'.cell? ⟨b2, 3, none⟩ = some (.pointer irp)) (first | exact ⟨c2, d2, d3⟩ | exact cb3 | exact cb2 | exact cb1)
    (first
      | (go_at_call 60; (with_reducible refine (HA1.out _ (Below.refl _ _).drew).mono ?_); rintro e w1 ⟨p1, rfl, h1, hb1'⟩; obtain ⟨hb1, cb1⟩ := HT.out _ hb1')
      | (go_at_call 60; (with_reducible refine (HA2.out _ hb1).mono ?_); rintro e w2 ⟨p2, rfl, h2, hb2'⟩; obtain ⟨hb2, cb2⟩ := HT2.out _ _ hb1 hb2')
      | (go_at_call 60; (with_reducible refine (HZ.out _ _ _ hb2 (h1.below hb2') h2).mono ?_); rintro e w3 ⟨p3, rfl, h3, hb3'⟩; obtain ⟨hb3, cb3⟩ := HT2.out _ _ hb2 hb3'))
  all_goals go_wp2
  go_ret
  exact ⟨_, rfl, h3, hb3⟩

set_option maxHeartbeats 1600000 in
set_option maxRecDepth 8000 in
theorem bal3S (b : Nat) (lp rp nv ov : Option Addr) (ll lr o : Tr ByteArray) (lk k : ByteArray) (lx x : Int) (w : World) (hl : Is Value.string 98 w (some ⟨b, 0, none⟩) (.node lk lx ll lr)) (c2 : w.cell? ⟨b, 2, none⟩ = some (.pointer lp)) (c3 : w.cell? ⟨b, 3, none⟩ = some (.pointer rp)) (h2 : Is Value.string 98 w lp ll) (h3 : Is Value.string 98 w rp lr)
    (hn : Hd w nv (Value.string k) x) (ho : Is Value.string 98 w ov o) (hs : (Tr.node lk lx ll lr).size + o.size ≤ 1000000) (hh : (Tr.node lk lx ll lr).height = o.height + 2) (hh2 : ll.height ≤ lr.height) :
    Calls Try.prog 59 #[.pointer ov, .pointer nv, .pointer (some ⟨b, 0, none⟩)] w (Makes Value.string 98 w (.node lk lx (.node k x o ll) lr)) := by
  have hbl : b < w.heap.size := hl.pos
  simp only [Tr.size] at hs
  have hlh := (Tr.node lk lx ll lr).height_le
  have hrh := o.height_le
  simp only [Tr.size] at hlh
  have HA1 : Hid (∀ wq, Below w.heap.size w wq → Calls Try.prog 60 #[.pointer ov, .pointer nv, .pointer lp] wq (Makes Value.string 98 wq (.node k x o ll))) := fun wq hb =>
    aboveS_any ov nv lp o ll k x wq (ho.below hb) (hn.below hb) (h2.below hb) (by omega)
  have HZ : Hid (∀ wq p, Below w.heap.size w wq → Is Value.string 98 wq p (.node k x o ll) → Calls Try.prog 60 #[.pointer p, .pointer (some ⟨b, 0, none⟩), .pointer rp] wq (Makes Value.string 98 wq (.node lk lx (.node k x o ll) lr))) := fun wq p hb hp =>
    aboveS_any p (some ⟨b, 0, none⟩) rp (.node k x o ll) lr lk lx wq hp (hl.hd.below hb) (h3.below hb) (by simp only [Tr.size]; omega)
  have HT : Hid (∀ w1, Below w.drew.heap.size w.drew w1 → Below w.heap.size w w1 ∧ (w1.cell? ⟨b, 3, none⟩ = some (.pointer rp))) := fun w1 h =>
    have h' : Below w.heap.size w w1 := (Below.refl _ _).drew.trans h
    ⟨h', (h'.cell (p := ⟨b, 3, none⟩) hbl).trans c3⟩
  have HT2 : Hid (∀ w1 w2, Below w.heap.size w w1 → Below w1.heap.size w1 w2 → Below w.heap.size w w2 ∧ (w2.cell? ⟨b, 3, none⟩ = some (.pointer rp))) := fun w1 w2 h h2 =>
    have h' : Below w.heap.size w w2 := h.trans (h2.mono h.size)
    ⟨h', (h'.cell (p := ⟨b, 3, none⟩) hbl).trans c3⟩
  have Hhr := Lib.hid (heightS_any (some ⟨b, 0, none⟩) (.node lk lx ll lr) w hl)
  have Hhl := Lib.hid (heightS_any ov o w ho)
  have Hh2 := Lib.hid (heightS_any rp lr w h3)
  have Hh3 := Lib.hid (heightS_any lp ll w h2)
  clear hl hn ho h2 h3
  obtain ⟨a1, e1⟩ : ∃ n, n = o.height := ⟨_, rfl⟩
  obtain ⟨a2, e2⟩ : ∃ n, n = (Tr.node lk lx ll lr).height := ⟨_, rfl⟩
  obtain ⟨a3, e3⟩ : ∃ n, n = lr.height := ⟨_, rfl⟩
  obtain ⟨a4, e4⟩ : ∃ n, n = ll.height := ⟨_, rfl⟩
  rw [← e1] at hh hrh Hhl
  rw [← e2] at hh hlh Hhr
  rw [← e3] at hh2 Hh2
  rw [← e4] at hh2 Hh3
  clear e1 e2 e3 e4
  have g1 : a1 ≤ 2000000 := by omega
  have g2 : a2 ≤ 2000000 := by omega
  have t0 : ((a1 : Int) - (a2 : Int) == 2) = false := by rw [beq_eq_false_iff_ne]; omega
  have t1 : ((a1 : Int) - (a2 : Int) == -2) = true := by rw [beq_iff_eq]; omega
  have t2 : decide (a4 ≤ a3) = true := by rw [decide_eq_true_iff]; omega
  clear hh hlh hrh hs hh2
  go_enter Try.func59, Try.ntmps59
  go_wp2_with fail
  refine (Hhl.out).mono ?_
  rintro e w' ⟨rfl, hw⟩; obtain rfl := hw.symm; clear hw
  go_wp2_with fail
  refine (Hhr.out).mono ?_
  rintro e w' ⟨rfl, hw⟩; obtain rfl := hw.symm; clear hw
  go_wp2_with fail
  refine (Hh2.out).mono ?_
  rintro e w' ⟨rfl, hw⟩; obtain rfl := hw.symm; clear hw
  go_wp2_with fail
  refine (Hh3.out).mono ?_
  rintro e w' ⟨rfl, hw⟩; obtain rfl := hw.symm; clear hw
  go_wp2_with fail
  go_region_held3 (fun w' => w'.cell? ⟨b, 3, none⟩ = some (.pointer rp)) (first | exact c3 | exact cb2 | exact cb1)
    (first
      | (go_at_call 60; (with_reducible refine (HA1.out _ (Below.refl _ _).drew).mono ?_); rintro e w1 ⟨p1, rfl, h1, hb1'⟩; obtain ⟨hb1, cb1⟩ := HT.out _ hb1')
      | (go_at_call 60; (with_reducible refine (HZ.out _ _ hb1 h1).mono ?_); rintro e w2 ⟨p2, rfl, h2, hb2'⟩; obtain ⟨hb2, cb2⟩ := HT2.out _ _ hb1 hb2'))
  all_goals go_wp2
  go_ret
  exact ⟨_, rfl, h2, hb2⟩

set_option maxHeartbeats 1600000 in
set_option maxRecDepth 8000 in
theorem bal4S (b : Nat) (lp rp nv ov : Option Addr) (ll lr o : Tr ByteArray) (lk k : ByteArray) (lx x : Int) (w : World) (hl : Is Value.string 98 w (some ⟨b, 0, none⟩) (.node lk lx ll lr)) (c2 : w.cell? ⟨b, 2, none⟩ = some (.pointer lp)) (c3 : w.cell? ⟨b, 3, none⟩ = some (.pointer rp)) (h2 : Is Value.string 98 w lp ll) (h3 : Is Value.string 98 w rp lr) (ik : ByteArray) (ix : Int) (il ir : Tr ByteArray) (hi : ll = .node ik ix il ir)
    (hn : Hd w nv (Value.string k) x) (ho : Is Value.string 98 w ov o) (hs : (Tr.node lk lx ll lr).size + o.size ≤ 1000000) (hh : (Tr.node lk lx ll lr).height = o.height + 2) (hh2 : ¬ ll.height ≤ lr.height) :
    Calls Try.prog 59 #[.pointer ov, .pointer nv, .pointer (some ⟨b, 0, none⟩)] w (Makes Value.string 98 w (.node ik ix (.node k x o il) (.node lk lx ir lr))) := by
  have hbl : b < w.heap.size := hl.pos
  simp only [Tr.size] at hs
  have hlh := (Tr.node lk lx ll lr).height_le
  have hrh := o.height_le
  simp only [Tr.size] at hlh
  subst hi
  simp only [Tr.size] at hs hlh
  obtain ⟨b2, ilp, irp, rfl, hb2l, _, _, d2, d3, _, _, h4, h5⟩ := Is.node h2
  have HA1 : Hid (∀ wq, Below w.heap.size w wq → Calls Try.prog 60 #[.pointer ov, .pointer nv, .pointer ilp] wq (Makes Value.string 98 wq (.node k x o il))) := fun wq hb =>
    aboveS_any ov nv ilp o il k x wq (ho.below hb) (hn.below hb) (h4.below hb) (by omega)
  have HA2 : Hid (∀ wq, Below w.heap.size w wq → Calls Try.prog 60 #[.pointer irp, .pointer (some ⟨b, 0, none⟩), .pointer rp] wq (Makes Value.string 98 wq (.node lk lx ir lr))) := fun wq hb =>
    aboveS_any irp (some ⟨b, 0, none⟩) rp ir lr lk lx wq (h5.below hb) (hl.hd.below hb) (h3.below hb) (by omega)
  have HZ : Hid (∀ wq p p2, Below w.heap.size w wq → Is Value.string 98 wq p (.node k x o il) → Is Value.string 98 wq p2 (.node lk lx ir lr) → Calls Try.prog 60 #[.pointer p, .pointer (some ⟨b2, 0, none⟩), .pointer p2] wq (Makes Value.string 98 wq (.node ik ix (.node k x o il) (.node lk lx ir lr)))) := fun wq p p2 hb hp hp2 =>
    aboveS_any p (some ⟨b2, 0, none⟩) p2 (.node k x o il) (.node lk lx ir lr) ik ix wq hp (h2.hd.below hb) hp2 (by simp only [Tr.size]; omega)
  have HT : Hid (∀ w1, Below w.drew.heap.size w.drew w1 → Below w.heap.size w w1 ∧ (w1.cell? ⟨b2, 2, none⟩ = some (.pointer ilp) ∧ w1.cell? ⟨b2, 3, none⟩ = some (.pointer irp) ∧ w1.cell? ⟨b, 3, none⟩ = some (.pointer rp))) := fun w1 h =>
    have h' : Below w.heap.size w w1 := (Below.refl _ _).drew.trans h
    ⟨h', ⟨(h'.cell (p := ⟨b2, 2, none⟩) hb2l).trans d2, (h'.cell (p := ⟨b2, 3, none⟩) hb2l).trans d3, (h'.cell (p := ⟨b, 3, none⟩) hbl).trans c3⟩⟩
  have HT2 : Hid (∀ w1 w2, Below w.heap.size w w1 → Below w1.heap.size w1 w2 → Below w.heap.size w w2 ∧ (w2.cell? ⟨b2, 2, none⟩ = some (.pointer ilp) ∧ w2.cell? ⟨b2, 3, none⟩ = some (.pointer irp) ∧ w2.cell? ⟨b, 3, none⟩ = some (.pointer rp))) := fun w1 w2 h h2 =>
    have h' : Below w.heap.size w w2 := h.trans (h2.mono h.size)
    ⟨h', ⟨(h'.cell (p := ⟨b2, 2, none⟩) hb2l).trans d2, (h'.cell (p := ⟨b2, 3, none⟩) hb2l).trans d3, (h'.cell (p := ⟨b, 3, none⟩) hbl).trans c3⟩⟩
  have Hhr := Lib.hid (heightS_any (some ⟨b, 0, none⟩) (.node lk lx (.node ik ix il ir) lr) w hl)
  have Hhl := Lib.hid (heightS_any ov o w ho)
  have Hh2 := Lib.hid (heightS_any rp lr w h3)
  have Hh3 := Lib.hid (heightS_any (some ⟨b2, 0, none⟩) (.node ik ix il ir) w h2)
  clear hl hn ho h2 h3 h4 h5
  obtain ⟨a1, e1⟩ : ∃ n, n = o.height := ⟨_, rfl⟩
  obtain ⟨a2, e2⟩ : ∃ n, n = (Tr.node lk lx (.node ik ix il ir) lr).height := ⟨_, rfl⟩
  obtain ⟨a3, e3⟩ : ∃ n, n = lr.height := ⟨_, rfl⟩
  obtain ⟨a4, e4⟩ : ∃ n, n = (Tr.node ik ix il ir).height := ⟨_, rfl⟩
  rw [← e1] at hh hrh Hhl
  rw [← e2] at hh hlh Hhr
  rw [← e3] at hh2 Hh2
  rw [← e4] at hh2 Hh3
  clear e1 e2 e3 e4
  have g1 : a1 ≤ 2000000 := by omega
  have g2 : a2 ≤ 2000000 := by omega
  have t0 : ((a1 : Int) - (a2 : Int) == 2) = false := by rw [beq_eq_false_iff_ne]; omega
  have t1 : ((a1 : Int) - (a2 : Int) == -2) = true := by rw [beq_iff_eq]; omega
  have t2 : decide (a4 ≤ a3) = false := by rw [decide_eq_false_iff_not]; omega
  clear hh hlh hrh hs hh2
  go_enter Try.func59, Try.ntmps59
  go_wp2_with fail
  refine (Hhl.out).mono ?_
  rintro e w' ⟨rfl, hw⟩; obtain rfl := hw.symm; clear hw
  go_wp2_with fail
  refine (Hhr.out).mono ?_
  rintro e w' ⟨rfl, hw⟩; obtain rfl := hw.symm; clear hw
  go_wp2_with fail
  refine (Hh2.out).mono ?_
  rintro e w' ⟨rfl, hw⟩; obtain rfl := hw.symm; clear hw
  go_wp2_with fail
  refine (Hh3.out).mono ?_
  rintro e w' ⟨rfl, hw⟩; obtain rfl := hw.symm; clear hw
  go_wp2_with fail
  go_region_held3 (fun w' => w'.cell? ⟨b2, 2, none⟩ = some (.pointer ilp) ∧ w'.cell? ⟨b2, 3, none⟩ = some (.pointer irp) ∧ w'.cell? ⟨b, 3, none⟩ = some (.pointer rp)) (first | exact ⟨d2, d3, c3⟩ | exact cb3 | exact cb2 | exact cb1)
    (first
      | (go_at_call 60; (with_reducible refine (HA1.out _ (Below.refl _ _).drew).mono ?_); rintro e w1 ⟨p1, rfl, h1, hb1'⟩; obtain ⟨hb1, cb1⟩ := HT.out _ hb1')
      | (go_at_call 60; (with_reducible refine (HA2.out _ hb1).mono ?_); rintro e w2 ⟨p2, rfl, h2, hb2'⟩; obtain ⟨hb2, cb2⟩ := HT2.out _ _ hb1 hb2')
      | (go_at_call 60; (with_reducible refine (HZ.out _ _ _ hb2 (h1.below hb2') h2).mono ?_); rintro e w3 ⟨p3, rfl, h3, hb3'⟩; obtain ⟨hb3, cb3⟩ := HT2.out _ _ hb2 hb3'))
  all_goals go_wp2
  go_ret
  exact ⟨_, rfl, h3, hb3⟩

set_option maxHeartbeats 1600000 in
set_option maxRecDepth 8000 in
theorem bal5S (lv nv rv : Option Addr) (l r : Tr ByteArray) (k : ByteArray) (x : Int) (w : World) (hl : Is Value.string 98 w lv l) (hn : Hd w nv (Value.string k) x) (hr : Is Value.string 98 w rv r) (hs : l.size + r.size ≤ 1000000) (hh : l.height ≠ r.height + 2) (hh' : r.height ≠ l.height + 2) :
    Calls Try.prog 59 #[.pointer lv, .pointer nv, .pointer rv] w (Makes Value.string 98 w (.node k x l r)) := by
  have hlh := l.height_le
  have hrh := r.height_le
  have HA := Lib.hid (aboveS_any lv nv rv l r k x w hl hn hr hs)
  have Hhl := Lib.hid (heightS_any lv l w hl)
  have Hhr := Lib.hid (heightS_any rv r w hr)
  clear hl hn hr
  obtain ⟨a1, e1⟩ : ∃ n, n = l.height := ⟨_, rfl⟩
  obtain ⟨a2, e2⟩ : ∃ n, n = r.height := ⟨_, rfl⟩
  rw [← e1] at hh hh' hlh Hhl
  rw [← e2] at hh hh' hrh Hhr
  clear e1 e2
  have g1 : a1 ≤ 2000000 := by omega
  have g2 : a2 ≤ 2000000 := by omega
  have t0 : ((a1 : Int) - (a2 : Int) == 2) = false := by rw [beq_eq_false_iff_ne]; omega
  have t1 : ((a1 : Int) - (a2 : Int) == -2) = false := by rw [beq_eq_false_iff_ne]; omega
  clear hh hh' hlh hrh hs
  go_enter Try.func59, Try.ntmps59
  go_wp2_with fail
  refine (Hhl.out).mono ?_
  rintro e w' ⟨rfl, hw⟩; obtain rfl := hw.symm; clear hw
  go_wp2_with fail
  refine (Hhr.out).mono ?_
  rintro e w' ⟨rfl, hw⟩; obtain rfl := hw.symm; clear hw
  go_wp2_with fail
  refine (HA.out).mono ?_
  rintro e w1 ⟨p, rfl, h1, hb1⟩
  go_wp2
  go_ret
  exact ⟨_, rfl, h1, hb1⟩

theorem balS_any (lv nv rv : Option Addr) (l r : Tr ByteArray) (k : ByteArray) (x : Int) (w : World) (hl : Is Value.string 98 w lv l) (hn : Hd w nv (Value.string k) x) (hr : Is Value.string 98 w rv r) (hs : l.size + r.size ≤ 1000000) :
    Calls Try.prog 59 #[.pointer lv, .pointer nv, .pointer rv] w (Makes Value.string 98 w (Tr.bal l k x r)) := by
  by_cases h1 : l.height = r.height + 2
  · cases l with
    | nil => simp [Tr.height] at h1
    | node lk lx ll lr =>
      obtain ⟨b, lp, rp, rfl, hb, c0, c1, c2, c3, c4, c5, h2, h3⟩ := hl.node
      by_cases hc : lr.height ≤ ll.height
      · rw [show Tr.bal (.node lk lx ll lr) k x r = .node lk lx ll (.node k x lr r) by unfold Tr.bal; rw [if_pos h1]; exact if_pos hc]
        exact bal1S b lp rp nv rv ll lr r lk k lx x w hl c2 c3 h2 h3 hn hr hs h1 hc
      · cases lr with
        | nil => simp [Tr.height] at hc
        | node ik ix il ir =>
          rw [show Tr.bal (.node lk lx ll (.node ik ix il ir)) k x r = .node ik ix (.node lk lx ll il) (.node k x ir r) by unfold Tr.bal; rw [if_pos h1]; exact if_neg hc]
          exact bal2S b lp rp nv rv ll _ r lk k lx x w hl c2 c3 h2 h3 ik ix il ir rfl hn hr hs h1 hc
  · by_cases h1' : r.height = l.height + 2
    · cases r with
      | nil => simp [Tr.height] at h1'
      | node lk lx ll lr =>
        obtain ⟨b, lp, rp, rfl, hb, c0, c1, c2, c3, c4, c5, h2, h3⟩ := hr.node
        by_cases hc : ll.height ≤ lr.height
        · rw [show Tr.bal l k x (.node lk lx ll lr) = .node lk lx (.node k x l ll) lr by unfold Tr.bal; rw [if_neg h1, if_pos h1']; exact if_pos hc]
          exact bal3S b lp rp nv lv ll lr l lk k lx x w hr c2 c3 h2 h3 hn hl (by omega) h1' hc
        · cases ll with
          | nil => simp [Tr.height] at hc
          | node ik ix il ir =>
            rw [show Tr.bal l k x (.node lk lx (.node ik ix il ir) lr) = .node ik ix (.node k x l il) (.node lk lx ir lr) by unfold Tr.bal; rw [if_neg h1, if_pos h1']; exact if_neg hc]
            exact bal4S b lp rp nv lv _ lr l lk k lx x w hr c2 c3 h2 h3 ik ix il ir rfl hn hl (by omega) h1' hc
    · rw [show Tr.bal l k x r = .node k x l r by unfold Tr.bal; rw [if_neg h1, if_neg h1']]
      exact bal5S lv nv rv l r k x w hl hn hr hs h1 h1'
end Go.Proofs.Ytdffgkhlkbaecaa.Tok
