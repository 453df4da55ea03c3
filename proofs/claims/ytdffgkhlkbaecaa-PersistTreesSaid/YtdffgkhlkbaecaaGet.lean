/- A tree's Get. -/
import Derived.Test.YtdffgkhlkbaecaaTreeAt
import Derived.Test.YtdffgkhlkbaecaaTreeOrd
namespace Go.Proofs.Ytdffgkhlkbaecaa.Tok
open Go.RowKit Go.Proofs.Ytdffgkhlkbaecaa

theorem get_node (c : ByteArray → Int) (k : ByteArray) (x : Int) (l r : Tr ByteArray) : (Tr.node k x l r).get c = if c k = 0 then some x else if c k < 0 then l.get c else r.get c := rfl
/-- What find hands back. -/
def FindIs (t : Tr ByteArray) (pk : ByteArray) (q : Option Addr) (w : World) : Prop :=
  (q = none ∧ t.get (cmpS pk) = none) ∨ ∃ (b : Nat) (x : Int), q = some ⟨b, 0, none⟩ ∧ b < w.heap.size ∧ w.cell? ⟨b, 1, none⟩ = some (.int .i64 x) ∧ t.get (cmpS pk) = some x
set_option maxHeartbeats 1600000 in
set_option maxRecDepth 8000 in
theorem find_tree (p : Option Addr) (t : Tr ByteArray) (pk : ByteArray) (w : World) (h : Is Value.string 98 w p t) :
    Calls Try.prog 53 #[.pointer p, .func (.func 45) #[.agg #[.string pk]] #[]] w fun e w' => ∃ q, e = .returned (.pointer q) ∧ Hid (FindIs t pk q w') ∧ Below w.heap.size w w' := by
  have H := Lib.hid h
  clear h
  go_enter Try.func53, Try.ntmps53
  go_wp2
  go_loopw [0] (fun nv wr => ∃ (u : Tr ByteArray) (pu : Option Addr), nv = .pointer pu ∧ Hid (Is Value.string 98 wr pu u) ∧ Hid (t.get (cmpS pk) = u.get (cmpS pk)) ∧ Below w.heap.size w wr) (fun nv wr => szOf wr nv)
  case atStart => exact ⟨t, p, rfl, H.out, rfl, Below.refl _ _⟩
  case round =>
    obtain ⟨u, pu, rfl, hu, hn, hbw⟩ := hrel
    cases u with
    | nil =>
      obtain rfl := Is.nil_iff.1 hu.out
      have HN : Hid (FindIs t pk none wr) := .inl ⟨rfl, hn.out⟩
      clear hu hn
      go_wp2
      go_ret
      exact ⟨_, rfl, HN.out, hbw⟩
    | node nk x l r =>
      obtain ⟨b, lp, rp, rfl, hb, c0, c1, c2, c3, c4, c5, h2, h3⟩ := hu.out.node
      have Hcc : Hid (∀ w1, Below wr.heap.size wr w1 → w1.cell? ⟨b, 1, none⟩ = some (.int .i64 x) ∧ w1.cell? ⟨b, 2, none⟩ = some (.pointer lp) ∧ w1.cell? ⟨b, 3, none⟩ = some (.pointer rp) ∧ b < w1.heap.size) := fun w1 hb' =>
        ⟨(hb'.cell (p := ⟨b, 1, none⟩) hb).trans c1, (hb'.cell (p := ⟨b, 2, none⟩) hb).trans c2, (hb'.cell (p := ⟨b, 3, none⟩) hb).trans c3, by have := hb'.size; omega⟩
      have HN := Lib.hid (hn.out.trans (get_node (cmpS pk) nk x l r))
      have Hz0 := Lib.hid hu.out.sz
      have H2 := Lib.hid h2
      have H3 := Lib.hid h3
      have hcs : cmpS pk nk = -1 ∨ cmpS pk nk = 0 ∨ cmpS pk nk = 1 := by rcases cmpS_cases pk nk with ⟨_, e⟩ | ⟨_, _, e⟩ | ⟨_, _, e⟩ <;> omega
      clear h2 h3 hu hn c4 c5 c1 c2 c3
      rcases hcs with hc | hc | hc
      · have HV := Lib.hid (show t.get (cmpS pk) = l.get (cmpS pk) by rw [HN.out, hc]; rfl)
        have HC := Lib.hid hc
        clear hc HN
        go_wp2_with fail
        refine (pivotS_any pk nk wr).mono ?_
        rintro e w1 ⟨rfl, hb1⟩
        rw [HC.out]
        obtain ⟨_, d2, d3, d4⟩ := Hcc.out w1 hb1
        have Hz2 := Lib.hid (H2.out.below hb1).sz
        go_wp2
        go_light
        exact ⟨⟨l, lp, rfl, H2.out.below hb1, HV.out, hbw.trans (hb1.mono hbw.size)⟩, by rw [Hz2.out, Hz0.out]; simp only [Tr.size]; omega⟩
      · have HV := Lib.hid (show t.get (cmpS pk) = some x by rw [HN.out, hc]; rfl)
        have HC := Lib.hid hc
        clear hc HN
        go_wp2_with fail
        refine (pivotS_any pk nk wr).mono ?_
        rintro e w1 ⟨rfl, hb1⟩
        rw [HC.out]
        obtain ⟨d1, d2, d3, d4⟩ := Hcc.out w1 hb1
        have HF : Hid (FindIs t pk (some ⟨b, 0, none⟩) w1) := .inr ⟨b, x, rfl, d4, d1, HV.out⟩
        have Hb := Lib.hid (hbw.trans (hb1.mono hbw.size))
        clear d1 d2 d3 hb1 Hcc
        go_wp2
        go_ret
        exact ⟨_, rfl, HF.out, Hb.out⟩
      · have HV := Lib.hid (show t.get (cmpS pk) = r.get (cmpS pk) by rw [HN.out, hc]; rfl)
        have HC := Lib.hid hc
        clear hc HN
        go_wp2_with fail
        refine (pivotS_any pk nk wr).mono ?_
        rintro e w1 ⟨rfl, hb1⟩
        rw [HC.out]
        obtain ⟨_, d2, d3, d4⟩ := Hcc.out w1 hb1
        have Hz3 := Lib.hid (H3.out.below hb1).sz
        go_wp2
        go_light
        exact ⟨⟨r, rp, rfl, H3.out.below hb1, HV.out, hbw.trans (hb1.mono hbw.size)⟩, by rw [Hz3.out, Hz0.out]; simp only [Tr.size]; omega⟩
def getV : Option Int → Value
  | none => .tuple #[.int .i64 0, .bool false]
  | some x => .tuple #[.int .i64 x, .bool true]
set_option maxHeartbeats 1600000 in
theorem getT_any (p : Option Addr) (t : Tr ByteArray) (k : ByteArray) (w : World) (h : Is Value.string 98 w p t) :
    Calls Try.prog 34 #[.agg #[.pointer p], .string k] w fun e w' => e = .returned (getV (t.get (cmpS k))) ∧ Below w.heap.size w w' := by
  have H := Lib.hid h
  obtain ⟨o, ho⟩ : ∃ o, o = t.get (cmpS k) := ⟨_, rfl⟩
  have Ho := Lib.hid ho
  rw [← ho]
  clear h ho
  go_enter Try.func34, Try.ntmps34
  go_wp2_with fail
  have hbq : Below w.heap.size w (w.alloc (.cells #[.pointer p] 27)) := (Below.refl _ _).alloc (Nat.le_refl _) _
  refine (find_tree p t k _ (H.out.below hbq)).mono ?_
  rintro e w1 ⟨q, rfl, hf, hb⟩
  have Hb := Lib.hid (hbq.trans (hb.mono hbq.size))
  clear hb hbq
  rcases hf.out with ⟨rfl, hg⟩ | ⟨b, x, rfl, hbl, hc, hg⟩
  · obtain rfl : o = none := Ho.out.trans hg
    clear hf hg
    go_wp2
    go_ret2
    exact ⟨rfl, Hb.out⟩
  · obtain rfl : o = some x := Ho.out.trans hg
    clear hf hg
    go_wp2
    go_ret2
    exact ⟨rfl, Hb.out⟩
end Go.Proofs.Ytdffgkhlkbaecaa.Tok
