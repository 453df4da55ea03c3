/- nodes: the iterator over a tree's nodes, and what it gives. -/
import Derived.Test.YtdffgkhlkbaecaaRange2
import Derived.Test.YtdffgkhlkbaecaaTreeOrd
import Derived.Maps.AppendAt
import Derived.Sort.LoopGhostIn
import Derived.Test.YtdffgkhlkbaecaaRSets3
namespace Go.Proofs.Ytdffgkhlkbaecaa.Tok
open Go.RowKit Go.Proofs.Ytdffgkhlkbaecaa
attribute [local go_sem] Oper.semAt_some

/-- A node: its block, its key, its value. -/
abbrev NdT := Nat × ByteArray × Int
def ptrOf : Option Value → Option Addr
  | some (.pointer p) => p
  | _ => none
def nodesOf (w : World) : Tr ByteArray → Option Addr → List NdT
  | .nil, _ => []
  | .node _ _ _ _, none => []
  | .node k x l r, some a => nodesOf w l (ptrOf (w.cell? ⟨a.block, 2, none⟩)) ++ (a.block, k, x) :: nodesOf w r (ptrOf (w.cell? ⟨a.block, 3, none⟩))
theorem nodesOf_node {w : World} {b : Nat} {lp rp : Option Addr} {k : ByteArray} {x : Int} {l r : Tr ByteArray} (h2 : w.cell? ⟨b, 2, none⟩ = some (.pointer lp)) (h3 : w.cell? ⟨b, 3, none⟩ = some (.pointer rp)) :
    nodesOf w (.node k x l r) (some ⟨b, 0, none⟩) = nodesOf w l lp ++ (b, k, x) :: nodesOf w r rp := by
  show nodesOf w l (ptrOf (w.cell? ⟨b, 2, none⟩)) ++ (b, k, x) :: nodesOf w r (ptrOf (w.cell? ⟨b, 3, none⟩)) = _
  rw [h2, h3]
  rfl
def NdAt (w : World) (x : NdT) : Prop := x.1 < w.heap.size ∧ w.cell? ⟨x.1, 0, none⟩ = some (.string x.2.1) ∧ w.cell? ⟨x.1, 1, none⟩ = some (.int .i64 x.2.2)
theorem nodes_at {w : World} : ∀ {t : Tr ByteArray} {p : Option Addr}, Is Value.string 98 w p t → ∀ x ∈ nodesOf w t p, NdAt w x
  | .nil, p, _, x, hx => by simp [nodesOf] at hx
  | .node k v l r, p, h, x, hx => by
    obtain ⟨b, lp, rp, rfl, hb, c0, c1, c2, c3, _, _, hl, hr⟩ := h.node
    rw [nodesOf_node c2 c3] at hx
    rcases List.mem_append.1 hx with h1 | h1
    · exact nodes_at hl x h1
    · rcases List.mem_cons.1 h1 with rfl | h1
      · exact ⟨hb, c0, c1⟩
      · exact nodes_at hr x h1
theorem nodes_ents {w : World} : ∀ {t : Tr ByteArray} {p : Option Addr}, Is Value.string 98 w p t → (nodesOf w t p).map (·.2) = t.ents
  | .nil, p, _ => rfl
  | .node k v l r, p, h => by
    obtain ⟨b, lp, rp, rfl, hb, c0, c1, c2, c3, _, _, hl, hr⟩ := h.node
    rw [nodesOf_node c2 c3, List.map_append, List.map_cons, nodes_ents hl, nodes_ents hr]
    rfl
theorem nodes_below {w w' : World} : ∀ {t : Tr ByteArray} {p : Option Addr}, Is Value.string 98 w p t → Below w.heap.size w w' → nodesOf w' t p = nodesOf w t p
  | .nil, p, _, _ => rfl
  | .node k v l r, p, h, hb => by
    obtain ⟨b, lp, rp, rfl, hbl, c0, c1, c2, c3, _, _, hl, hr⟩ := h.node
    rw [nodesOf_node c2 c3, nodesOf_node ((hb.cell (p := ⟨b, 2, none⟩) hbl).trans c2) ((hb.cell (p := ⟨b, 3, none⟩) hbl).trans c3), nodes_below hl hb, nodes_below hr hb]
/-- What waits on the path: a node, and what is right of it. -/
structure Fr where
  b : Nat
  k : ByteArray
  x : Int
  r : Tr ByteArray
  rp : Option Addr
def tails (w : World) (stk : List Fr) : List NdT := stk.flatMap fun f => (f.b, f.k, f.x) :: nodesOf w f.r f.rp
theorem tails_cons (w : World) (f : Fr) (stk : List Fr) : tails w (f :: stk) = (f.b, f.k, f.x) :: nodesOf w f.r f.rp ++ tails w stk := by simp [tails]
def frV (f : Fr) : Value := .pointer (some ⟨f.b, 0, none⟩)
def FrOk (w : World) (f : Fr) : Prop := f.b < w.heap.size ∧ w.cell? ⟨f.b, 3, none⟩ = some (.pointer f.rp) ∧ Is Value.string 98 w f.rp f.r
/-- What a round keeps: whatever lay below n₀; the rows of pointers to nodes. -/
structure KpN (n₀ : Nat) (W W' : World) : Prop where
  below : Below n₀ W W'
  keeps : ∀ (i : Nat) (cs : Array Value) (fr : Nat × Nat), W.heap[i]? = some (.cells cs 25 fr) → W'.heap[i]? = some (.cells cs 25 fr)
theorem KpN.trans {n₀ : Nat} {A B C : World} (h : KpN n₀ A B) (k : KpN n₀ B C) : KpN n₀ A C := ⟨h.below.trans k.below, fun i cs fr e => k.keeps i cs fr (h.keeps i cs fr e)⟩
theorem KpN.own {n₀ base n : Nat} {A B : World} {v : Value} {xs : List Value} (h : KpN n₀ A B) (ho : A.ownsRow base 25 1 v n xs) : B.ownsRow base 25 1 v n xs := by
  refine ⟨ho.1, ?_⟩
  rcases ho.2 with h1 | ⟨g, cap, cur, h1, h2, h3, h4⟩
  · exact .inl h1
  · exact .inr ⟨g, cap, cur, h1, h2, h.keeps _ _ _ h3, h4⟩
theorem own_cut {base e n m c : Nat} {w : World} {A : Option Addr} {xs : List Value} (h : w.ownsRow base e 1 (.slice A n c) n xs) (hm : m ≤ n) (h0 : 0 < n) : w.ownsRow base e 1 (.slice A m c) m (xs.take m) := by
  have hl := h.1
  refine ⟨by rw [List.length_take]; omega, ?_⟩
  rcases h.2 with ⟨h1, h2⟩ | ⟨g, cap, cur, h1, h2, h3, h4, h5, h6, h7⟩
  · omega
  · injection h1 with h1 _ h8
    refine .inr ⟨g, cap, cur, by rw [h1, h8], h2, h3, by omega, h5, h6, ?_⟩
    rw [← h7, List.take_take]
    congr 1
    omega
/-- Between two steps of the iterator. -/
structure NdI (w : World) (n₀ base : Nat) (xs : List NdT) (J : List NdT → World → Prop) (pre : List NdT) (stk : List Fr) (v : Value) (todo : List NdT) (wr : World) : Prop where
  all : xs = pre ++ (todo ++ tails w stk)
  ok : ∀ f ∈ stk, FrOk w f
  own : wr.ownsRow base 25 1 v stk.length (stk.reverse.map frV)
  j : J pre wr
  bel : Below n₀ w wr
  sz : base ≤ wr.heap.size
section
variable {w wr w1 : World} {n₀ base : Nat} {xs pre todo : List NdT} {J : List NdT → World → Prop} {stk : List Fr} {v : Value}
theorem NdI.push (h : NdI w n₀ base xs J pre stk v todo wr) (hJ : Abide 25 base J) (hn : n₀ ≤ base) {b : Nat} {lp rp : Option Addr} {k : ByteArray} {x : Int} {l r : Tr ByteArray} {q : Option Addr}
    (hI : Is Value.string 98 w q (.node k x l r)) (hq : q = some ⟨b, 0, none⟩) (c2 : w.cell? ⟨b, 2, none⟩ = some (.pointer lp)) (c3 : w.cell? ⟨b, 3, none⟩ = some (.pointer rp)) (hr : Is Value.string 98 w rp r)
    (ht : todo = nodesOf w (.node k x l r) q) {v1 : Value} {tmp : Obj} (hg : (wr.alloc tmp).grownBy w1 v.ownBlock) (ho : w1.ownsRow base 25 1 v1 (stk.length + 1) (stk.reverse.map frV ++ [.pointer (some ⟨b, 0, none⟩)])) :
    NdI w n₀ base xs J pre (⟨b, k, x, r, rp⟩ :: stk) v1 (nodesOf w l lp) w1 := by
  subst hq
  have hb := hI.node
  have hbl : b < w.heap.size := by obtain ⟨b', _, _, e, h1, _⟩ := hb; injection e with e; injection e with e; omega
  refine ⟨?_, ?_, ?_, ?_, ?_, ?_⟩
  · rw [h.all, ht, nodesOf_node c2 c3, tails_cons]
    simp
  · intro f hf
    rcases List.mem_cons.1 hf with rfl | hf
    · exact ⟨hbl, c3, hr⟩
    · exact h.ok f hf
  · rw [List.reverse_cons, List.map_append]
    exact ho
  · refine hJ _ _ _ _ (hJ.alloc h.j tmp) hg fun r e => ?_
    rcases (h.own.alloc tmp).2 with ⟨rfl, _⟩ | ⟨g, cap, cur, rfl, h1, h2, _⟩
    · cases e
    · injection e with e
      subst e
      exact ⟨h1, _, h2, .inr ⟨_, _, rfl⟩⟩
  · have h1 := h.sz
    refine (h.bel.alloc (by omega) tmp).grown hg (by simp; omega) fun k e => ?_
    have := (h.own.lt k e).1
    omega
  · have h1 := h.sz
    have h2 := hg.size
    simp at h2
    omega
end
theorem tails_len (w : World) : ∀ stk : List Fr, stk.length ≤ (tails w stk).length
  | [] => Nat.zero_le _
  | f :: stk => by
    have := tails_len w stk
    rw [tails_cons, List.length_append]
    simp
    omega
theorem NdI.few {w wr : World} {n₀ base : Nat} {xs pre todo : List NdT} {J : List NdT → World → Prop} {stk : List Fr} {v : Value} (h : NdI w n₀ base xs J pre stk v todo wr) : stk.length ≤ xs.length := by
  have h1 := tails_len w stk
  rw [h.all, List.length_append, List.length_append]
  omega
theorem nodes_len {w : World} {t : Tr ByteArray} {p : Option Addr} (h : Is Value.string 98 w p t) : (nodesOf w t p).length = t.size := by
  rw [← Tr.ents_len, ← nodes_ents h, List.length_map]
theorem infoNd : (Try.prog.info? 25).map (fun i => (i.zero, i.size, i.bytes)) = some (some (.pointer none), 1, 8) := by kernel_rfl
def encN (x : NdT) : Array Value := #[.pointer (some ⟨x.1, 0, none⟩)]
set_option maxHeartbeats 3200000 in
set_option maxRecDepth 8000 in
theorem nodes1_in (F : Fence) (n : Nat) (hF : F.fn 66) (hro : F.round = none) (hn : 1 ≤ n) (l Bn : Nat) (p : Option Addr) (t : Tr ByteArray) (J : List NdT → World → Prop) (w W : World)
    (hI : Is Value.string 98 w p t) (hts : t.size ≤ 1000000) (hW : Below w.heap.size w W) (hJ : Abide 25 W.heap.size J)
    (cB : W.cell? ⟨Bn, 0, none⟩ = some (.pointer p))
    (hY : ∀ pre x W1, J pre W1 → pre ++ [x] <+: nodesOf w t p → YieldAt F (n - 1) Try.prog l (encN x) W1 fun e W' => e = .returned (.bool true) ∧ J (pre ++ [x]) W' ∧ KpN w.heap.size W1 W')
    (h0 : J [] W) :
    CallsIn F n Try.prog 66 #[.func (.yield l) #[] #[], .pointer (some ⟨Bn, 0, none⟩)] W fun e W' => (∃ v, e = .returned v) ∧ J (nodesOf w t p) W' := by
  obtain ⟨i0, hi, hz0, hz1, hz2⟩ := info_parts infoNd
  have HI0 : Hid (NdI w w.heap.size W.heap.size (nodesOf w t p) J [] [] (.slice none 0 0) (nodesOf w t p) W) := ⟨by simp [tails], by simp, World.ownsRow_nil _ _ _ _, h0, hW, Nat.le_refl _⟩
  have HI := Lib.hid hI
  have hBW : w.heap.size ≤ W.heap.size := hW.size
  have HJ := Lib.hid hJ
  have HY := Lib.hid hY
  obtain ⟨XS, hXS⟩ : ∃ XS, XS = nodesOf w t p := ⟨_, rfl⟩
  rw [← hXS] at HY ⊢
  have HI1 : Hid (NdI w w.heap.size W.heap.size XS J [] [] (.slice none 0 0) (nodesOf w t p) W) := by rw [hXS]; exact HI0
  clear hI hW hJ hY h0 HI0
  refine callsIn_of_wp Try.func66 rfl hF ?_ hro
  simp only [Try.ntmps66, List.size_toArray, List.length_cons, List.length_nil, Nat.reduceAdd, Nat.reduceSub, Array.replicate_succ, Array.replicate_zero, List.push_toArray, List.append_toArray, List.nil_append, List.cons_append]
  gi_wp2
  gi_loopg [3, 4] XS.length (fun g pv bv wr => ∃ (pre : List NdT) (stk : List Fr) (q : Option Addr) (u : Tr ByteArray), bv = .pointer q ∧ Hid (Is Value.string 98 w q u) ∧ Hid (NdI w w.heap.size W.heap.size XS J pre stk pv (nodesOf w u q) wr) ∧ Hid (g = (nodesOf w u q).length + (tails w stk).length))
  case atStart => exact ⟨[], [], p, t, rfl, HI.out, HI1.out, by show _ = _; rw [hXS]; simp [tails]⟩
  case round =>
    have hXl : XS.length ≤ 1000000 := by rw [hXS, nodes_len HI.out]; exact hts
    clear HI1 cB hXS HI
    obtain ⟨pre, stk, q, u, rfl, hIu, hN, hg⟩ := hrel
    obtain ⟨A0, c0, hv0⟩ := slice_form hN.out.own
    have hfew := hN.out.few
    obtain ⟨m0, hm0⟩ : ∃ m, m = stk.length := ⟨_, rfl⟩
    rw [← hm0] at hv0 hfew
    subst hv0
    have Hm0 := Lib.hid hm0
    by_cases hdone : u = .nil ∧ stk = []
    · obtain ⟨rfl, rfl⟩ := hdone
      obtain rfl := Is.nil_iff.1 hIu.out
      obtain rfl : m0 = 0 := hm0
      have HE : Hid (J XS wr) := by have h1 := hN.out.all; have h2 := hN.out.j; show J XS wr; rw [h1]; simpa [nodesOf, tails] using h2
      clear hIu hN hg
      gi_wp2
      go_end0
      exact ⟨⟨_, rfl⟩, HE.out⟩
    · have hgk : 0 < gk := by
        have h1 := hg.out
        have h2 := nodes_len hIu.out
        have h3 := tails_len w stk
        cases u with
        | nil =>
          cases stk with
          | nil => exact absurd ⟨rfl, rfl⟩ hdone
          | cons f s => simp at h3; omega
        | node k x l r => simp only [Tr.size] at h2; omega
      have hcs : (q = none ∧ 0 < m0) ∨ (∃ b, q = some ⟨b, 0, none⟩) := by
        cases u with
        | nil =>
          refine .inl ⟨Is.nil_iff.1 hIu.out, ?_⟩
          cases stk with
          | nil => exact absurd ⟨rfl, rfl⟩ hdone
          | cons f s => simp at hm0; omega
        | node k x l r =>
          obtain ⟨b, _, _, e, _⟩ := hIu.out.node
          exact .inr ⟨b, e⟩
      obtain ⟨G, hG⟩ : ∃ G, G = gk := ⟨_, rfl⟩
      have Hg : Hid (G = (nodesOf w u q).length + (tails w stk).length) := by show _ = _; rw [hG]; exact hg.out
      rw [← hG] at hgk
      clear hdone hm0 hg
      rcases hcs with ⟨rfl, hm⟩ | ⟨b0, rfl⟩
      all_goals
        gi_wp2
        gi_loopg [3, 4] u.size (fun g' pv bv wy => ∃ (stk : List Fr) (q : Option Addr) (u : Tr ByteArray), bv = .pointer q ∧ Hid (Is Value.string 98 w q u) ∧ Hid (NdI w w.heap.size W.heap.size XS J pre stk pv (nodesOf w u q) wy) ∧ Hid (G = (nodesOf w u q).length + (tails w stk).length) ∧ Hid (g' = u.size))
        case atStart => exact ⟨stk, _, u, rfl, hIu.out, hN.out, Hg.out, rfl⟩
        case round =>
          clear hN hIu Hg
          obtain ⟨stk1, q1, u1, rfl, hIu1, hN1, hg1, hgu⟩ := hrel
          obtain ⟨A1, c1, hv1⟩ := slice_form hN1.out.own
          have hfew1 := hN1.out.few
          cases u1 with
          | nil =>
            obtain rfl := Is.nil_iff.1 hIu1.out
            obtain ⟨f, rest, rfl⟩ : ∃ f rest, stk1 = f :: rest := by
              cases stk1 with
              | nil => have := hg1.out; simp [nodesOf, tails] at this; omega
              | cons f rest => exact ⟨f, rest, rfl⟩
            obtain ⟨j, hj⟩ : ∃ j, j = rest.length := ⟨_, rfl⟩
            simp only [List.length_cons] at hv1 hfew1
            rw [← hj] at hv1 hfew1
            subst hv1
            have ho := hN1.out.own
            simp only [List.length_cons, List.reverse_cons, List.map_append, List.map_cons, List.map_nil] at ho
            rw [← hj] at ho
            have hjr : (rest.reverse.map frV).length = j := by simp [hj]
            obtain ⟨ga, rfl⟩ : ∃ ga, A1 = some ⟨ga, 0, none⟩ := by
              rcases ho.2 with ⟨_, h2⟩ | ⟨g', cap', cur', h2, _⟩
              · omega
              · injection h2 with h2; exact ⟨_, h2⟩
            have hga := (ho.lt ga rfl).2
            have hcc : j + 1 ≤ c1 := by
              rcases ho.2 with ⟨_, h2⟩ | ⟨g', cap', cur', h2, _, _, h3, _⟩
              · omega
              · injection h2 with _ _ h2; omega
            have hcell : wr.cell? ⟨ga, j, none⟩ = some (.pointer (some ⟨f.b, 0, none⟩)) := (ho.cellAt j (by omega)).trans (by rw [List.getElem?_append_right (by omega), hjr]; simp [frV])
            have hcut := own_cut ho (m := j) (by omega) (by omega)
            rw [List.take_append_of_le_length (by omega), List.take_of_length_le (by omega)] at hcut
            obtain ⟨fb1, fb2, fb3⟩ := hN1.out.ok f (by simp)
            have hall : XS = (pre ++ [(f.b, f.k, f.x)]) ++ (nodesOf w f.r f.rp ++ tails w rest) := by rw [hN1.out.all, tails_cons]; simp [nodesOf]
            have hpre : pre ++ [(f.b, f.k, f.x)] <+: XS := ⟨_, hall.symm⟩
            obtain ⟨fn, tmps, assign, body, hy, hR⟩ := HY.out pre (f.b, f.k, f.x) wr hN1.out.j hpre
            have HN2 : Hid (∀ W3, J (pre ++ [(f.b, f.k, f.x)]) W3 → KpN w.heap.size wr W3 → W3.cell? ⟨f.b, 3, none⟩ = some (.pointer f.rp) ∧ f.b < W3.heap.size ∧
                Hid (Is Value.string 98 w f.rp f.r) ∧ Hid (NdI w w.heap.size W.heap.size XS J (pre ++ [(f.b, f.k, f.x)]) rest (.slice (some ⟨ga, 0, none⟩) j c1) (nodesOf w f.r f.rp) W3) ∧ Hid (G - 1 = (nodesOf w f.r f.rp).length + (tails w rest).length)) := fun W3 h1 h2 => by
              have hb3 := hN1.out.bel.trans h2.below
              have hs1 := hN1.out.sz
              have hs3 := h2.below.size
              refine ⟨(hb3.cell (p := ⟨f.b, 3, none⟩) fb1).trans fb2, by omega, fb3, ⟨hall, fun x hx => hN1.out.ok x (List.mem_cons_of_mem _ hx), ?_, h1, hb3, by omega⟩, ?_⟩
              · rw [← hj]; exact h2.own hcut
              · have h4 := hg1.out
                rw [tails_cons, List.length_append] at h4
                simp [nodesOf] at h4
                show _ = _
                omega
            dsimp only [encN] at hy
            have hcs2 : (0 : Int) ≤ (j : Int) ∧ (j : Int) ≤ (c1 : Int) := by omega
            clear ho hcut hN1 hg1 hgu hIu1 fb1 fb2 fb3 hall hpre hjr HY hj
            gi_wp2
            refine hR.mono ?_
            rintro e W3 ⟨rfl, hJ3, hk3⟩
            obtain ⟨k1, k2, k3, k4, k5⟩ := HN2.out W3 hJ3 hk3
            clear hR hy HN2 hJ3 hk3 hcell
            gi_wp2
            gi_roundg (G - 1)
            case measure => omega
            case rel => exact ⟨_, rest, _, _, rfl, k3.out, k4.out, k5.out⟩
          | node k x lt rt =>
            obtain ⟨b, lp, rp, rfl, hb, d0, d1, d2, d3, _, _, hl, hr⟩ := hIu1.out.node
            obtain ⟨m1, hm1⟩ : ∃ m, m = stk1.length := ⟨_, rfl⟩
            rw [← hm1] at hv1 hfew1
            subst hv1
            have HN2 : Hid (∀ v2 w1, w1.ownsRow W.heap.size 25 1 v2 (m1 + 1) (stk1.reverse.map frV ++ [.pointer (some ⟨b, 0, none⟩)]) → (wr.alloc (.cells #[.pointer (some ⟨b, 0, none⟩)] 25)).grownBy w1 (Value.slice A1 m1 c1).ownBlock →
                w1.cell? ⟨b, 2, none⟩ = some (.pointer lp) ∧ b < w1.heap.size ∧ Hid (NdI w w.heap.size W.heap.size XS J pre (⟨b, k, x, rt, rp⟩ :: stk1) v2 (nodesOf w lt lp) w1) ∧ Hid (G = (nodesOf w lt lp).length + (tails w (⟨b, k, x, rt, rp⟩ :: stk1)).length)) := fun v2 w1 h1 h2 => by
              rw [hm1] at h1
              have h3 := hN1.out.push HJ.out hBW hIu1.out rfl d2 d3 hr rfl h2 h1
              have hs := h3.bel.size
              refine ⟨(h3.bel.cell (p := ⟨b, 2, none⟩) hb).trans d2, by omega, h3, ?_⟩
              have h4 := hg1.out
              rw [nodesOf_node d2 d3] at h4
              rw [tails_cons]
              simp only [List.length_append, List.length_cons] at h4 ⊢
              show _ = _
              omega
            have HOw : Hid (wr.ownsRow W.heap.size 25 1 (.slice A1 m1 c1) m1 (stk1.reverse.map frV)) := by have := hN1.out.own; rw [← hm1] at this; exact this
            have HL := Lib.hid hl
            have hsz := hN1.out.sz
            have hgu1 := hgu.out
            simp only [Tr.size] at hgu1
            have h63 : m1 + 1 ≤ maxLen := by simp only [maxLen]; omega
            have hby : (m1 + 1) * 8 ≤ 140737488355328 := by omega
            clear hN1 hg1 hgu hIu1 d0 d1 d2 d3 hl hr hm1 HY
            gi_wp2_with (gi_at_builtin; refine wpListIn_append_own _ rfl _ _ 125 rfl W.heap.size 25 i0 (.pointer none) 1 8 Try.underlying125 hi hz0 hz1 hz2 rfl (by decide) (.slice A1 m1 c1) m1 _ rfl (HOw.out.alloc _) ⟨wr.heap.size, 0, none⟩ 1 1 [.pointer (some ⟨b, 0, none⟩)] rfl rfl (cell_one_new _ _ _) (by simp [Value.oneCell']) h63 hby (by simp; omega) ?_; intro v' w1 hown' hgrow _; obtain ⟨k1, k2, k3, k4⟩ := HN2.out _ _ hown' hgrow; clear hown' hgrow)
            gi_roundg (lt.size)
            case measure => omega
            case rel => exact ⟨_, _, _, rfl, HL.out, k3.out, k4.out, rfl⟩
end Go.Proofs.Ytdffgkhlkbaecaa.Tok
