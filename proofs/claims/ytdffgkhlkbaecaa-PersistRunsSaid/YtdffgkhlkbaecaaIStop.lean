/- nodes of trees of ints, by rounds that may stop it. -/
import Derived.Test.YtdffgkhlkbaecaaINodes
import Derived.Test.YtdffgkhlkbaecaaRange3
namespace Go.Proofs.Ytdffgkhlkbaecaa.Tok
open Go.RowKit Go.Proofs.Ytdffgkhlkbaecaa
attribute [local go_sem] Oper.semAt_some

set_option maxHeartbeats 3200000 in
set_option maxRecDepth 8000 in
theorem nodes1s_inI (F : Fence) (n : Nat) (hF : F.fn 57) (hro : F.round = none) (hn : 1 ≤ n) (l Bn : Nat) (p : Option Addr) (t : Tr Int) (J Jx : List NdTI → World → Prop) (w W : World)
    (hI : Is (Value.int .i64) 86 w p t) (hts : t.size ≤ 1000000) (hW : Below w.heap.size w W) (hJ : Abide 37 W.heap.size J)
    (cB : W.cell? ⟨Bn, 0, none⟩ = some (.pointer p))
    (hY : ∀ pre x W1, J pre W1 → pre ++ [x] <+: nodesOfI w t p → YieldAt F (n - 1) Try.prog l (encNI x) W1 fun e W' => (e = .returned (.bool true) ∧ J (pre ++ [x]) W' ∧ KpNI w.heap.size W1 W') ∨ (e = .returned (.bool false) ∧ Jx (pre ++ [x]) W' ∧ KpNI w.heap.size W1 W'))
    (h0 : J [] W) :
    CallsIn F n Try.prog 57 #[.func (.yield l) #[] #[], .pointer (some ⟨Bn, 0, none⟩)] W fun e W' => (∃ v, e = .returned v) ∧ (J (nodesOfI w t p) W' ∨ ∃ pre, pre <+: nodesOfI w t p ∧ Jx pre W') := by
  obtain ⟨i0, hi, hz0, hz1, hz2⟩ := info_parts infoNdI
  have HI0 : Hid (NdII w w.heap.size W.heap.size (nodesOfI w t p) J [] [] (.slice none 0 0) (nodesOfI w t p) W) := ⟨by simp [tailsI], by simp, World.ownsRow_nil _ _ _ _, h0, hW, Nat.le_refl _⟩
  have HI := Lib.hid hI
  have hBW : w.heap.size ≤ W.heap.size := hW.size
  have HJ := Lib.hid hJ
  have HY := Lib.hid hY
  obtain ⟨XS, hXS⟩ : ∃ XS, XS = nodesOfI w t p := ⟨_, rfl⟩
  rw [← hXS] at HY ⊢
  have HI1 : Hid (NdII w w.heap.size W.heap.size XS J [] [] (.slice none 0 0) (nodesOfI w t p) W) := by rw [hXS]; exact HI0
  clear hI hW hJ hY h0 HI0
  refine callsIn_of_wp Try.func57 rfl hF ?_ hro
  simp only [Try.ntmps57, List.size_toArray, List.length_cons, List.length_nil, Nat.reduceAdd, Nat.reduceSub, Array.replicate_succ, Array.replicate_zero, List.push_toArray, List.append_toArray, List.nil_append, List.cons_append]
  gi_wp2
  gi_loopg [3, 4] XS.length (fun g pv bv wr => ∃ (pre : List NdTI) (stk : List FrI) (q : Option Addr) (u : Tr Int), bv = .pointer q ∧ Hid (Is (Value.int .i64) 86 w q u) ∧ Hid (NdII w w.heap.size W.heap.size XS J pre stk pv (nodesOfI w u q) wr) ∧ Hid (g = (nodesOfI w u q).length + (tailsI w stk).length))
  case atStart => exact ⟨[], [], p, t, rfl, HI.out, HI1.out, by show _ = _; rw [hXS]; simp [tailsI]⟩
  case round =>
    have hXl : XS.length ≤ 1000000 := by rw [hXS, nodes_lenI HI.out]; exact hts
    clear HI1 cB hXS HI
    obtain ⟨pre, stk, q, u, rfl, hIu, hN, hg⟩ := hrel
    obtain ⟨A0, c0, hv0⟩ := slice_form hN.out.own
    have hfew := hN.out.few
    obtain ⟨m0, hm0⟩ : ∃ m, m = stk.length := ⟨_, rfl⟩
    rw [← hm0] at hv0 hfew
    subst hv0
    have Hm0 := Lib.hid hm0
    by_cases hdone : u = .nil ∧ stk = []
    · obtain ⟨rfl, rfl⟩ := hdone
      obtain rfl := Is.nil_iff.1 hIu.out
      obtain rfl : m0 = 0 := hm0
      have HE : Hid (J XS wr) := by have h1 := hN.out.all; have h2 := hN.out.j; show J XS wr; rw [h1]; simpa [nodesOfI, tailsI] using h2
      clear hIu hN hg
      gi_wp2
      go_end0
      exact ⟨⟨_, rfl⟩, .inl HE.out⟩
    · have hgk : 0 < gk := by
        have h1 := hg.out
        have h2 := nodes_lenI hIu.out
        have h3 := tails_lenI w stk
        cases u with
        | nil =>
          cases stk with
          | nil => exact absurd ⟨rfl, rfl⟩ hdone
          | cons f s => simp at h3; omega
        | node k x l r => simp only [Tr.size] at h2; omega
      have hcs : (q = none ∧ 0 < m0) ∨ (∃ b, q = some ⟨b, 0, none⟩) := by
        cases u with
        | nil =>
          refine .inl ⟨Is.nil_iff.1 hIu.out, ?_⟩
          cases stk with
          | nil => exact absurd ⟨rfl, rfl⟩ hdone
          | cons f s => simp at hm0; omega
        | node k x l r =>
          obtain ⟨b, _, _, e, _⟩ := hIu.out.node
          exact .inr ⟨b, e⟩
      obtain ⟨G, hG⟩ : ∃ G, G = gk := ⟨_, rfl⟩
      have Hg : Hid (G = (nodesOfI w u q).length + (tailsI w stk).length) := by show _ = _; rw [hG]; exact hg.out
      rw [← hG] at hgk
      clear hdone hm0 hg
      rcases hcs with ⟨rfl, hm⟩ | ⟨b0, rfl⟩
      all_goals
        gi_wp2
        gi_loopg [3, 4] u.size (fun g' pv bv wy => ∃ (stk : List FrI) (q : Option Addr) (u : Tr Int), bv = .pointer q ∧ Hid (Is (Value.int .i64) 86 w q u) ∧ Hid (NdII w w.heap.size W.heap.size XS J pre stk pv (nodesOfI w u q) wy) ∧ Hid (G = (nodesOfI w u q).length + (tailsI w stk).length) ∧ Hid (g' = u.size))
        case atStart => exact ⟨stk, _, u, rfl, hIu.out, hN.out, Hg.out, rfl⟩
        case round =>
          clear hN hIu Hg
          obtain ⟨stk1, q1, u1, rfl, hIu1, hN1, hg1, hgu⟩ := hrel
          obtain ⟨A1, c1, hv1⟩ := slice_form hN1.out.own
          have hfew1 := hN1.out.few
          cases u1 with
          | nil =>
            obtain rfl := Is.nil_iff.1 hIu1.out
            obtain ⟨f, rest, rfl⟩ : ∃ f rest, stk1 = f :: rest := by
              cases stk1 with
              | nil => have := hg1.out; simp [nodesOfI, tailsI] at this; omega
              | cons f rest => exact ⟨f, rest, rfl⟩
            obtain ⟨j, hj⟩ : ∃ j, j = rest.length := ⟨_, rfl⟩
            simp only [List.length_cons] at hv1 hfew1
            rw [← hj] at hv1 hfew1
            subst hv1
            have ho := hN1.out.own
            simp only [List.length_cons, List.reverse_cons, List.map_append, List.map_cons, List.map_nil] at ho
            rw [← hj] at ho
            have hjr : (rest.reverse.map frVI).length = j := by simp [hj]
            obtain ⟨ga, rfl⟩ : ∃ ga, A1 = some ⟨ga, 0, none⟩ := by
              rcases ho.2 with ⟨_, h2⟩ | ⟨g', cap', cur', h2, _⟩
              · omega
              · injection h2 with h2; exact ⟨_, h2⟩
            have hga := (ho.lt ga rfl).2
            have hcc : j + 1 ≤ c1 := by
              rcases ho.2 with ⟨_, h2⟩ | ⟨g', cap', cur', h2, _, _, h3, _⟩
              · omega
              · injection h2 with _ _ h2; omega
            have hcell : wr.cell? ⟨ga, j, none⟩ = some (.pointer (some ⟨f.b, 0, none⟩)) := (ho.cellAt j (by omega)).trans (by rw [List.getElem?_append_right (by omega), hjr]; simp [frVI])
            have hcut := own_cutI ho (m := j) (by omega) (by omega)
            rw [List.take_append_of_le_length (by omega), List.take_of_length_le (by omega)] at hcut
            obtain ⟨fb1, fb2, fb3⟩ := hN1.out.ok f (by simp)
            have hall : XS = (pre ++ [(f.b, f.k, f.x)]) ++ (nodesOfI w f.r f.rp ++ tailsI w rest) := by rw [hN1.out.all, tails_consI]; simp [nodesOfI]
            have hpre : pre ++ [(f.b, f.k, f.x)] <+: XS := ⟨_, hall.symm⟩
            have Hpre := Lib.hid hpre
            obtain ⟨fn, tmps, assign, body, hy, hR⟩ := HY.out pre (f.b, f.k, f.x) wr hN1.out.j hpre
            have HN2 : Hid (∀ W3, J (pre ++ [(f.b, f.k, f.x)]) W3 → KpNI w.heap.size wr W3 → W3.cell? ⟨f.b, 3, none⟩ = some (.pointer f.rp) ∧ f.b < W3.heap.size ∧
                Hid (Is (Value.int .i64) 86 w f.rp f.r) ∧ Hid (NdII w w.heap.size W.heap.size XS J (pre ++ [(f.b, f.k, f.x)]) rest (.slice (some ⟨ga, 0, none⟩) j c1) (nodesOfI w f.r f.rp) W3) ∧ Hid (G - 1 = (nodesOfI w f.r f.rp).length + (tailsI w rest).length)) := fun W3 h1 h2 => by
              have hb3 := hN1.out.bel.trans h2.below
              have hs1 := hN1.out.sz
              have hs3 := h2.below.size
              refine ⟨(hb3.cell (p := ⟨f.b, 3, none⟩) fb1).trans fb2, by omega, fb3, ⟨hall, fun x hx => hN1.out.ok x (List.mem_cons_of_mem _ hx), ?_, h1, hb3, by omega⟩, ?_⟩
              · rw [← hj]; exact h2.own hcut
              · have h4 := hg1.out
                rw [tails_consI, List.length_append] at h4
                simp [nodesOfI] at h4
                show _ = _
                omega
            dsimp only [encNI] at hy
            have hcs2 : (0 : Int) ≤ (j : Int) ∧ (j : Int) ≤ (c1 : Int) := by omega
            clear ho hcut hN1 hg1 hgu hIu1 fb1 fb2 fb3 hall hpre hjr HY hj
            gi_wp2
            refine hR.mono ?_
            rintro e W3 (⟨rfl, hJ3, hk3⟩ | ⟨rfl, hJx3, _⟩)
            · obtain ⟨k1, k2, k3, k4, k5⟩ := HN2.out W3 hJ3 hk3
              clear hR hy HN2 hJ3 hk3 hcell
              gi_wp2
              gi_roundg (G - 1)
              case measure => omega
              case rel => exact ⟨_, rest, _, _, rfl, k3.out, k4.out, k5.out⟩
            · have HX3 := Lib.hid hJx3
              clear hR hy HN2 hcell hJx3
              gi_wp2
              (try simp only [Exit.inBlock, Exit.then])
              refine bodyPost_ret (results_none rfl _ _ _) rfl ?_
              exact ⟨⟨_, rfl⟩, .inr ⟨_, Hpre.out, HX3.out⟩⟩
          | node k x lt rt =>
            obtain ⟨b, lp, rp, rfl, hb, d0, d1, d2, d3, _, _, hl, hr⟩ := hIu1.out.node
            obtain ⟨m1, hm1⟩ : ∃ m, m = stk1.length := ⟨_, rfl⟩
            rw [← hm1] at hv1 hfew1
            subst hv1
            have HN2 : Hid (∀ v2 w1, w1.ownsRow W.heap.size 37 1 v2 (m1 + 1) (stk1.reverse.map frVI ++ [.pointer (some ⟨b, 0, none⟩)]) → (wr.alloc (.cells #[.pointer (some ⟨b, 0, none⟩)] 37)).grownBy w1 (Value.slice A1 m1 c1).ownBlock →
                w1.cell? ⟨b, 2, none⟩ = some (.pointer lp) ∧ b < w1.heap.size ∧ Hid (NdII w w.heap.size W.heap.size XS J pre (⟨b, k, x, rt, rp⟩ :: stk1) v2 (nodesOfI w lt lp) w1) ∧ Hid (G = (nodesOfI w lt lp).length + (tailsI w (⟨b, k, x, rt, rp⟩ :: stk1)).length)) := fun v2 w1 h1 h2 => by
              rw [hm1] at h1
              have h3 := hN1.out.push HJ.out hBW hIu1.out rfl d2 d3 hr rfl h2 h1
              have hs := h3.bel.size
              refine ⟨(h3.bel.cell (p := ⟨b, 2, none⟩) hb).trans d2, by omega, h3, ?_⟩
              have h4 := hg1.out
              rw [nodesOf_nodeI d2 d3] at h4
              rw [tails_consI]
              simp only [List.length_append, List.length_cons] at h4 ⊢
              show _ = _
              omega
            have HOw : Hid (wr.ownsRow W.heap.size 37 1 (.slice A1 m1 c1) m1 (stk1.reverse.map frVI)) := by have := hN1.out.own; rw [← hm1] at this; exact this
            have HL := Lib.hid hl
            have hsz := hN1.out.sz
            have hgu1 := hgu.out
            simp only [Tr.size] at hgu1
            have h63 : m1 + 1 ≤ maxLen := by simp only [maxLen]; omega
            have hby : (m1 + 1) * 8 ≤ 140737488355328 := by omega
            clear hN1 hg1 hgu hIu1 d0 d1 d2 d3 hl hr hm1 HY
            gi_wp2_with (gi_at_builtin; refine wpListIn_append_own _ rfl _ _ 116 rfl W.heap.size 37 i0 (.pointer none) 1 8 Try.underlying116 hi hz0 hz1 hz2 rfl (by decide) (.slice A1 m1 c1) m1 _ rfl (HOw.out.alloc _) ⟨wr.heap.size, 0, none⟩ 1 1 [.pointer (some ⟨b, 0, none⟩)] rfl rfl (cell_one_new _ _ _) (by simp [Value.oneCell']) h63 hby (by simp; omega) ?_; intro v' w1 hown' hgrow _; obtain ⟨k1, k2, k3, k4⟩ := HN2.out _ _ hown' hgrow; clear hown' hgrow)
            gi_roundg (lt.size)
            case measure => omega
            case rel => exact ⟨_, _, _, rfl, HL.out, k3.out, k4.out, rfl⟩
end Go.Proofs.Ytdffgkhlkbaecaa.Tok
