/- Contracts of a tree's methods that look: At, Rank, Get. -/
import Derived.Test.YtdffgkhlkbaecaaTreeOps
namespace Go.Proofs.Ytdffgkhlkbaecaa.Tok
open Go.RowKit Go.Proofs.Ytdffgkhlkbaecaa

/-- The size that a node tells. -/
def szOf (w : World) : Value → Nat
  | .pointer (some a) => match w.cell? ⟨a.block, 4, none⟩ with
    | some (.int _ s) => s.toNat
    | _ => 0
  | _ => 0
theorem Is.sz {α : Type} {kv : α → Value} {T : TypeId} {w : World} {p : Option Addr} {t : Tr α} (h : Is kv T w p t) : szOf w (.pointer p) = t.size := by
  cases t with
  | nil => obtain rfl := Is.nil_iff.1 h; rfl
  | node k x l r =>
    obtain ⟨b, lp, rp, rfl, hb, c0, c1, c2, c3, c4, _⟩ := h.node
    simp only [szOf, c4]
    exact Int.toNat_natCast _
def atV : Option (ByteArray × Int) → Value
  | none => .tuple #[.string ⟨#[]⟩, .int .i64 0, .bool false]
  | some e => .tuple #[.string e.1, .int .i64 e.2, .bool true]

set_option maxHeartbeats 1600000 in
set_option maxRecDepth 8000 in
theorem atT_any (p : Option Addr) (t : Tr ByteArray) (i : Int) (w : World) (h : Is Value.string 98 w p t) (hs : t.size ≤ 1000000) (hi : -9223372036854775808 ≤ i) (hi2 : i ≤ 9223372036854775807) :
    Calls Try.prog 17 #[.agg #[.pointer p], .int .i64 i] w fun e w' => e = .returned (atV (t.nth i)) ∧ Below w.heap.size w w' := by
  have H := Lib.hid h
  clear h
  go_enter Try.func17, Try.ntmps17
  go_wp2
  generalize hwq : World.alloc _ _ = wq
  have hbq : Below w.heap.size w wq := by subst hwq; exact (Below.refl _ _).alloc (Nat.le_refl _) _
  clear hwq
  have Hq := Lib.hid (H.out.below hbq)
  have Hbq := Lib.hid hbq
  clear hbq
  go_loopw [1, 4, 5, 7] (fun iv kv' xv nv wr => ∃ (u : Tr ByteArray) (j : Int) (pu : Option Addr), iv = .int .i64 j ∧ kv' = .string ⟨#[]⟩ ∧ xv = .int .i64 0 ∧ nv = .pointer pu ∧ Hid (Is Value.string 98 wq pu u) ∧ Hid (t.nth i = u.nth j) ∧ u.size ≤ 1000000 ∧ -9223372036854775808 ≤ j ∧ j ≤ 9223372036854775807 ∧ wr = wq) (fun _ _ _ nv wr => szOf wr nv)
  case atStart => exact ⟨t, i, p, rfl, rfl, rfl, rfl, Hq.out, rfl, hs, hi, hi2, rfl⟩
  case round =>
    obtain ⟨u, j, pu, rfl, rfl, rfl, rfl, hu, hn, hsz, hj1, hj2, rfl⟩ := hrel
    cases u with
    | nil =>
      obtain rfl := Is.nil_iff.1 hu.out
      have HN := Lib.hid (show t.nth i = none from hn.out)
      clear hu hn
      go_wp2
      go_ret3
      exact ⟨by rw [HN.out]; rfl, Hbq.out⟩
    | node k x l r =>
      obtain ⟨b, lp, rp, rfl, hb, c0, c1, c2, c3, c4, c5, h2, h3⟩ := hu.out.node
      have HN := Lib.hid (hn.out.trans (Tr.nth_node k x l r j))
      have HC := Lib.hid (countS_any lp l wr h2)
      have Hz0 := Lib.hid hu.out.sz
      have Hz2 := Lib.hid h2.sz
      have Hz3 := Lib.hid h3.sz
      have H2 := Lib.hid h2
      have H3 := Lib.hid h3
      simp only [Tr.size] at hsz
      clear h2 h3 hu hn c4 c5
      obtain ⟨s, es⟩ : ∃ s, s = l.size := ⟨_, rfl⟩
      have Hes := Lib.hid es
      rw [← es] at hsz HC HN
      clear es
      by_cases e1 : j = (s : Int)
      · have t1 : (j == (s : Int)) = true := by rw [beq_iff_eq]; exact e1
        have HV := Lib.hid (show t.nth i = some (k, x) by rw [HN.out, if_pos e1])
        clear e1 HN c3
        go_wp2_with fail
        refine (HC.out).mono ?_
        rintro e w' ⟨rfl, hw⟩; obtain rfl := hw.symm; clear hw
        go_wp2
        go_quiet (fail)
        go_wp2
        go_ret3
        exact ⟨by rw [HV.out]; rfl, below_drewN' Hbq.out _⟩
      · have t1 : (j == (s : Int)) = false := by rw [beq_eq_false_iff_ne]; exact e1
        by_cases e2 : j < (s : Int)
        · have HV := Lib.hid (show t.nth i = l.nth j by rw [HN.out, if_neg e1, if_pos e2])
          clear e1 HN c0 c1 c3
          go_wp2_with fail
          refine (HC.out).mono ?_
          rintro e w' ⟨rfl, hw⟩; obtain rfl := hw.symm; clear hw
          go_wp2
          go_light
          exact ⟨⟨l, j, lp, rfl, rfl, rfl, rfl, H2.out, HV.out, by have := Hes.out; omega, hj1, hj2, by first | rfl | trivial⟩, by rw [Hz2.out, Hz0.out]; simp only [Tr.size]; omega⟩
        · have HV := Lib.hid (show t.nth i = r.nth (j - (s + 1)) by rw [HN.out, if_neg e1, if_neg e2])
          have hj : (s : Int) < j := by omega
          clear e1 e2 HN c0 c1
          go_wp2_with fail
          refine (HC.out).mono ?_
          rintro e w' ⟨rfl, hw⟩; obtain rfl := hw.symm; clear hw
          go_wp2
          go_light
          exact ⟨⟨r, j - (s + 1), rp, rfl, rfl, rfl, rfl, H3.out, HV.out, by omega, by omega, by omega, by first | rfl | trivial⟩, by rw [Hz3.out, Hz0.out]; simp only [Tr.size]; omega⟩

set_option maxHeartbeats 1600000 in
set_option maxRecDepth 8000 in
theorem rankT_any (p : Option Addr) (t : Tr ByteArray) (k : ByteArray) (w : World) (h : Is Value.string 98 w p t) (hs : t.size ≤ 1000000) :
    Calls Try.prog 21 #[.agg #[.pointer p], .string k] w fun e w' => e = .returned (.int .i64 (t.rank (cmpS k) : Nat)) ∧ Below w.heap.size w w' := by
  have H := Lib.hid h
  clear h
  go_enter Try.func21, Try.ntmps21
  go_wp2
  generalize hwq : World.alloc _ _ = wq
  have hbq : Below w.heap.size w wq := by subst hwq; exact (Below.refl _ _).alloc (Nat.le_refl _) _
  clear hwq
  have Hq := Lib.hid (H.out.below hbq)
  have Hbq := Lib.hid hbq
  clear hbq
  go_loopw [6, 7] (fun av nv wr => ∃ (u : Tr ByteArray) (acc : Nat) (pu : Option Addr), av = .int .i64 acc ∧ nv = .pointer pu ∧ Hid (Is Value.string 98 wr pu u) ∧ Hid (t.rank (cmpS k) = acc + u.rank (cmpS k)) ∧ acc + u.size ≤ 1000000 ∧ Below w.heap.size w wr) (fun _ nv wr => szOf wr nv)
  case atStart => exact ⟨t, 0, p, rfl, rfl, Hq.out, by show _ = _; omega, by omega, Hbq.out⟩
  case round =>
    obtain ⟨u, acc, pu, rfl, rfl, hu, hn, hsz, hbw⟩ := hrel
    cases u with
    | nil =>
      obtain rfl := Is.nil_iff.1 hu.out
      have HN := Lib.hid (show t.rank (cmpS k) = acc from hn.out)
      clear hu hn
      go_wp2
      go_ret
      exact ⟨by rw [HN.out]; rfl, hbw⟩
    | node nk x l r =>
      obtain ⟨b, lp, rp, rfl, hb, c0, c1, c2, c3, c4, c5, h2, h3⟩ := hu.out.node
      have Hcc : Hid (∀ w1, Below wr.heap.size wr w1 → w1.cell? ⟨b, 2, none⟩ = some (.pointer lp) ∧ w1.cell? ⟨b, 3, none⟩ = some (.pointer rp)) := fun w1 hb' => ⟨(hb'.cell (p := ⟨b, 2, none⟩) hb).trans c2, (hb'.cell (p := ⟨b, 3, none⟩) hb).trans c3⟩
      have HN := Lib.hid (hn.out.trans (show acc + (Tr.node nk x l r).rank (cmpS k) = acc + (if 0 < cmpS k nk then l.size + 1 + r.rank (cmpS k) else l.rank (cmpS k)) from rfl))
      have Hz0 := Lib.hid hu.out.sz
      have H2 := Lib.hid h2
      have H3 := Lib.hid h3
      simp only [Tr.size] at hsz
      clear h2 h3 hu hn c4 c5 c1 c2 c3
      obtain ⟨s, es⟩ : ∃ s, s = l.size := ⟨_, rfl⟩
      have Hes := Lib.hid es
      rw [← es] at hsz HN
      clear es
      by_cases e1 : 0 < cmpS k nk
      · have HV := Lib.hid (show t.rank (cmpS k) = acc + (s + 1) + r.rank (cmpS k) by rw [HN.out, if_pos e1]; omega)
        have HCv := Lib.hid (show cmpS k nk = 1 by rcases cmpS_cases k nk with ⟨_, e⟩ | ⟨_, _, e⟩ | ⟨_, _, e⟩ <;> omega)
        clear e1 HN
        go_wp2_with fail
        refine (pivotS_any k nk wr).mono ?_
        rintro e w1 ⟨rfl, hb1⟩
        rw [HCv.out]
        obtain ⟨d2, d3⟩ := Hcc.out w1 hb1
        have HC := Lib.hid (countS_any lp l w1 (H2.out.below hb1))
        rw [← Hes.out] at HC
        have Hz3 := Lib.hid (H3.out.below hb1).sz
        go_wp2_with fail
        refine (HC.out).mono ?_
        rintro e w' ⟨rfl, hw⟩; obtain rfl := hw.symm; clear hw
        go_wp2
        go_light
        exact ⟨⟨r, acc + (s + 1), rp, by go_num, rfl, H3.out.below hb1, HV.out, by omega, hbw.trans (hb1.mono hbw.size)⟩, by rw [Hz3.out, Hz0.out]; simp only [Tr.size]; omega⟩
      · have HV := Lib.hid (show t.rank (cmpS k) = acc + l.rank (cmpS k) by rw [HN.out, if_neg e1])
        obtain ⟨cv, hcv⟩ : ∃ cv, cv = cmpS k nk := ⟨_, rfl⟩
        rw [← hcv] at e1
        have HCv := Lib.hid hcv
        have e1' : cv ≤ 0 := by omega
        clear e1 HN hcv
        go_wp2_with fail
        refine (pivotS_any k nk wr).mono ?_
        rintro e w1 ⟨rfl, hb1⟩
        rw [← HCv.out]
        obtain ⟨d2, d3⟩ := Hcc.out w1 hb1
        have Hz2 := Lib.hid (H2.out.below hb1).sz
        go_wp2
        go_light
        exact ⟨⟨l, acc, lp, rfl, rfl, H2.out.below hb1, HV.out, by have := Hes.out; omega, hbw.trans (hb1.mono hbw.size)⟩, by rw [Hz2.out, Hz0.out]; simp only [Tr.size]; omega⟩
end Go.Proofs.Ytdffgkhlkbaecaa.Tok
