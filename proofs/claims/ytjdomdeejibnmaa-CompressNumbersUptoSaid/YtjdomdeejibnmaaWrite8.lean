/- The program's Write of a code. -/
import Derived.RangeFuncBox
import Derived.RangeFuncFrom
import Derived.RangeFuncNested
import Derived.Maps.AppendAt
import Derived.Lib.AppendStr
import Derived.Test.YtjdomdeejibnmaaItemMath
import Derived.Test.YtjdomdeejibnmaaChunk8
import Derived.Test.YtjdomdeejibnmaaRWrite8
namespace Go.Proofs.Ytjdomdeejibnmaa.Tok
open Go.RowKit Go.Shelf Go.Proofs.Ytjdomdeejibnmaa
attribute [local go_sem] Oper.semAt_some

theorem wr_zero : mkS (wrF 0) = ⟨#[90]⟩ := rfl
theorem wr_ask : mkS (wrF (-1)) = ⟨#[63]⟩ := rfl
set_option maxHeartbeats 1600000 in
set_option maxRecDepth 4000 in
theorem written_any (x : Int) (h1 : -1 ≤ x) (h2 : x ≤ 1000000) (w : World) : Calls Try.prog 27 #[.int .i64 x] w fun e w' => e = .returned (.string (mkS (wrF x))) ∧ Below w.heap.size w w' := by
  by_cases e0 : x = 0
  · subst e0
    rw [wr_zero]
    go_enter Try.func27, Try.ntmps27
    go_wp2
    go_ret
    exact ⟨rfl, Below.refl _ _⟩
  · have g0 : (x == 0) = false := by rw [beq_eq_false_iff_ne]; exact e0
    by_cases e1 : x = -1
    · subst e1
      rw [wr_ask]
      go_enter Try.func27, Try.ntmps27
      go_wp2
      go_ret
      exact ⟨rfl, Below.refl _ _⟩
    · have g1 : (x == -1) = false := by rw [beq_eq_false_iff_ne]; exact e1
      have Hv := Lib.hid (letV_ok (show 1 ≤ x by omega) h2)
      clear e0 e1
      go_enter Try.func27, Try.ntmps27
      go_wp2_with (go_at_call 16; refine (letters_any x _).mono ?_; rintro e w' ⟨rfl, hb⟩; rw [Hv.out])
      go_ret
      exact ⟨rfl, hb⟩
set_option maxHeartbeats 1600000 in
set_option maxRecDepth 4000 in
theorem chunk_any (A : Option Addr) (m c : Nat) (K : Int) (hK : 1 ≤ K) (w : World) : Calls Try.prog 28 #[.slice A m c, .int .i64 K] w fun e w' => e = .returned (.func (.func 39) #[] #[.pointer (some ⟨w.heap.size, 0, none⟩), .pointer (some ⟨w.heap.size + 1, 0, none⟩)]) ∧ w' = (w.alloc (.cells #[.slice A m c] 51)).alloc (.cells #[.int .i64 K] 3) := by
  go_enter Try.func28, Try.ntmps28
  have h1 : ¬ K < 1 := by omega
  go_wp2
  go_ret
  exact ⟨rfl, rfl⟩
theorem chunk_stops (n : Nat) (hn : 1 ≤ n) (B1 B2 : Nat) (A : Option Addr) (g m c K : Nat) (hA : 0 < m → A = some ⟨g, 0, none⟩) (hm : m ≤ 1000000) (hmc : m ≤ c) (hK : 1 ≤ K) (hK2 : K ≤ 9223372036854775807) (w : World) (l1 : B1 < w.heap.size) (l2 : B2 < w.heap.size)
    (hB1 : w.cell? ⟨B1, 0, none⟩ = some (.slice A m c)) (hB2 : w.cell? ⟨B2, 0, none⟩ = some (.int .i64 K)) :
    SeqStopsK Fence.wide n Try.prog 39 #[.pointer (some ⟨B1, 0, none⟩), .pointer (some ⟨B2, 0, none⟩)] (encS g) (keep2 B1 B2) (fun ys => ys = segF K m) (fun pre => pre <+: segF K m) (m + 1) w := fun l J Jx W hW hJ _ hY h0 =>
  chunk1_in n hn l B1 B2 A g m c K hA hm hmc hK hK2 J Jx (fun pre w q h => hJ pre w (w.drewN q) none h ⟨rfl, rfl, rfl, Nat.le_refl _, fun _ _ _ => rfl⟩ (fun r e => by cases e)) hY W ((hW.cell (p := ⟨B1, 0, none⟩) l1).trans hB1) ((hW.cell (p := ⟨B2, 0, none⟩) l2).trans hB2) h0
/-- The kit's law for a range over a function, with the loop's assignments told as what is put where. -/
theorem wp_rangeK {α : Type} {P : Program} {F : Fence} {n : Nat} {g : Operand} {ps : Array Tmp} {assign body : Code} {Q : Exit → Act → World → Prop} {a : Act} {w : World}
    (hro : F.round = none) (h1 : 1 ≤ n) {gf : Nat} {lb : Array Value} (hg : a.eval g = .func (.func gf) #[] lb) (hFg : F.fn gf) (eg : ∀ args w, (callFunc gf args).run P w = .ok (.enter gf args) w)
    {encs : α → Array Value} {Kp : World → World → Prop} {S Sp : List α → Prop} {N : Nat} {w0 : World} (hseq : SeqStopsK F (n - 1) P gf lb encs Kp S Sp N w0)
    (hKt : ∀ {A B C : World}, Kp A B → Kp B C → Kp A C) (hKb : ∀ (W : World) (l : Nat) (o o' : Obj), w.heap.size ≤ l → W.heap[l]? = some o → o.isCells = false → o.isWalk = false → Kp W (W.putObj l o')) (hb0 : Below w0.heap.size w0 w) (hps : ∀ x, (encs x).size = ps.size)
    (I : List α → World → Prop) (Ix : Code → List α → World → Prop) (hI : OwnFrom w.heap.size I) (hIx : ∀ c, OwnFrom w.heap.size (Ix c)) (h0 : I [] w) (ups : α → List (Tmp × Value))
    (hassign : ∀ (l : Nat) (x : α) (W : World) (K : Act → World → Prop), K { tmps := (ups x).foldl (fun t y => t.setIfInBounds y.1 y.2) a.tmps, defers := [] } W →
      assign.wpIn (F.inRound l) (n - 1 - 1) P (Exit.then K (fun _ _ _ => False)) { tmps := (ps.zip (encs x)).foldl (fun t (p, v) => t.setIfInBounds p v) a.tmps, defers := [] } W)
    (hbody : ∀ (l : Nat) (pre : List α) (x : α) (W : World), I pre W → pre.length < N → body.wpIn (F.inRound l) (n - 1 - 1) P (ownPostK Kp I Ix (pre ++ [x]) W) { tmps := (ups x).foldl (fun t y => t.setIfInBounds y.1 y.2) a.tmps, defers := [] } W)
    (hdone : ∀ (D : Nat) (xs : List α) (W : World), w.heap.size ≤ D → S xs → I xs W → W.heap[D]? = some (.deferred (some [])) → Q .normal { a with defers := { target := .collected D, args := #[] } :: a.defers } W)
    (hstop : ∀ (D : Nat) (c : Code) (pre : List α) (W : World), w.heap.size ≤ D → Sp pre → Ix c pre W → W.heap[D]? = some (.deferred (some [])) → c.wpIn F n P Q { a with defers := { target := .collected D, args := #[] } :: a.defers } W) :
    (Code.rangeFunc g ps assign body).wpIn F n P Q a w :=
  wpIn_rangeFunc_ownF hro h1 hg hFg eg hseq hKt hKb hb0 hps I Ix hI hIx h0 _ hassign hbody hdone hstop

theorem infoByte8 : (Try.prog.info? 5).map (fun i => (i.zero, i.size, i.bytes)) = some (some (.int .u8 0), 1, 1) := by kernel_rfl
def byteV (b : UInt8) : Value := .int .u8 b.toNat
theorem str_bytes (b : List UInt8) : Lib.strCells (mkS b) = b.map byteV := rfl
def segS (bs : List UInt8) (x : Seg bs.length) : ByteArray := mkS ((bs.drop x.1.1).take x.1.2)
theorem box_keeps8 {W W' : World} {row : Option Nat} {B : Nat} {t : TypeId} {v : Value} (h : Boxed W B t v) (hg : W.grownBy W' row) (hr : ∀ r, row = some r → ∃ o : Obj, W.heap[r]? = some o ∧ o.isCells = false) : Boxed W' B t v :=
  h.kept hg (fun e => by
    obtain ⟨o, ho, hc⟩ := hr B e.symm
    rw [show W.heap[B]? = _ from h] at ho
    cases ho
    cases hc)
theorem row_keeps8 {W W' : World} {row : Option Nat} {base size k : Nat} {e : TypeId} {v : Value} {xs : List Value} (h : W.ownsRow base e size v k xs) (hg : W.grownBy W' row) (hr : ∀ r, row = some r → ∃ o : Obj, W.heap[r]? = some o ∧ o.isCells = false) : W'.ownsRow base e size v k xs := by
  refine h.kept hg ?_
  rcases h.2 with ⟨rfl, _⟩ | ⟨g, cap, cur, rfl, _, hgb, _⟩
  · exact .inl rfl
  · refine .inr fun e' => ?_
    obtain ⟨o, ho, hc⟩ := hr g (by simpa [Value.ownBlock] using e'.symm)
    rw [hgb] at ho
    cases ho
    cases hc
/-- The words so far in their box, and the letters. -/
structure WdI (w : World) (B q : Nat) (A : Option Addr) (m c : Nat) (bs : List UInt8) (xs : List ByteArray) (W : World) (v : Value) : Prop where
  box : Boxed W q 22 v
  own : W.ownsRow B 9 1 v xs.length (xs.map Value.string)
  lets : W.ownsRow B 5 1 (.slice A m c) m (bs.map byteV)
  bel : Below B w W
section
variable {w W w1 : World} {B q m c : Nat} {A : Option Addr} {bs : List UInt8} {xs : List ByteArray} {v v' : Value}
theorem WdI.keeps {row : Option Nat} {W' : World} (h : WdI w B q A m c bs xs W v) (hg : W.grownBy W' row) (hr : ∀ r, row = some r → B ≤ r ∧ ∃ o : Obj, W.heap[r]? = some o ∧ o.isCells = false) (hs : B ≤ W.heap.size) : WdI w B q A m c bs xs W' v :=
  have hr' := fun r e => (hr r e).2
  ⟨box_keeps8 h.box hg hr', row_keeps8 h.own hg hr', row_keeps8 h.lets hg hr', h.bel.grown hg hs (fun k e => (hr k e).1)⟩
theorem WdI.push {s : ByteArray} {tmp : Obj} (h : WdI w B q A m c bs xs W v) (hown : w1.ownsRow B 9 1 v' (xs.length + 1) (xs.map Value.string ++ [.string s]))
    (hg : (W.alloc tmp).grownBy w1 v.ownBlock) (hq : B ≤ q) : Boxed w1 q 22 v ∧ WdI w B q A m c bs (xs ++ [s]) (w1.setCell ⟨q, 0, none⟩ v') v' ∧ KeepsOthers W (w1.setCell ⟨q, 0, none⟩ v') ∧
      ∀ b t u, Boxed W b t u → t ≠ 9 → b ≠ q → Boxed (w1.setCell ⟨q, 0, none⟩ v') b t u := by
  have ho := h.own.alloc tmp
  have hlt := h.box.lt
  have h3 := (h.box.alloc tmp).kept hg ((h.box.alloc tmp).not_row (by decide) ho)
  have hl : w1.ownsRow B 5 1 (.slice A m c) m (bs.map byteV) := (h.lets.alloc tmp).kept hg (own_apart' (h.lets.alloc tmp) ho (by decide))
  refine ⟨h3, ⟨h3.set v', ?_, ?_, ?_⟩, ?_, ?_⟩
  · rw [List.length_append, List.map_append]
    exact hown.kept (grownBy_setCell' w1 q v') (.inr fun e => h3.not_row (by decide) hown e.symm)
  · exact hl.kept (grownBy_setCell' w1 q v') (.inr fun e => h3.not_row (by decide) hl e.symm)
  · exact ((h.bel.alloc (by omega) tmp).grown hg (by simp; omega) (fun k e => (ho.lt k e).1)).setCell (p := ⟨q, 0, none⟩) hq _
  · refine ((KeepsOthers.alloc W tmp).trans (KeepsOthers.of_grownBy hg fun j o ej hj => ?_)).trans (KeepsOthers.setCell _ _ _)
    rcases ho.2 with ⟨rfl, _⟩ | ⟨g, cap, cur, rfl, _, hgb, _⟩
    · simp [Value.ownBlock] at ej
    · obtain rfl : g = j := by simpa [Value.ownBlock] using ej
      rw [hgb] at hj
      cases hj
      rfl
  · intro b t u hb ht hne
    exact ((hb.alloc tmp).kept hg ((hb.alloc tmp).not_row ht ho)).other hne v'
/-- The box of the first words. -/
theorem WdI.first {A4 : Option Addr} {n4 c4 : Nat} (hn : n4 = xs.length) (hown : w1.ownsRow B 9 1 (.slice A4 n4 c4) n4 (xs.map Value.string)) (hl : w1.ownsRow B 5 1 (.slice A m c) m (bs.map byteV)) (hb : Below B w w1) (hs : B ≤ w1.heap.size) :
    WdI w B w1.heap.size A m c bs xs (w1.alloc (.cells #[.slice A4 n4 c4] 22)) (.slice A4 n4 c4) := by
  subst hn
  exact ⟨Boxed.new w1 22 _, hown.alloc _, hl.alloc _, hb.alloc hs _⟩
theorem WdI.alloc (h : WdI w B q A m c bs xs W v) (hs : B ≤ W.heap.size) (o : Obj) : WdI w B q A m c bs xs (W.alloc o) v := h.keeps (World.grownBy_alloc W o none) (fun r e => by cases e) hs
theorem own_cap {A : Option Addr} {n c e z b : Nat} {ys : List Value} (h : W.ownsRow b e z (.slice A n c) n ys) : n ≤ c := by
  rcases h.2 with ⟨_, h2⟩ | ⟨g, cap, cur, h1, _, _, hnc, _⟩
  · omega
  · injection h1 with _ _ h3
    omega
/-- A part of the letters as a text. -/
theorem WdI.text (h : WdI w B q A m c bs xs W v) {g i e : Nat} (hA : 0 < m → A = some ⟨g, 0, none⟩) (he : i + e ≤ m) : (convert 51 9 (.slice (some ⟨g, i, none⟩) e e)).run Try.prog W = .ok (.string (mkS ((bs.drop i).take e))) W := by
  have hlen : bs.length = m := by simpa using h.lets.1
  have hl : ((bs.drop i).take e).length = e := by simp; omega
  have := run_convert_bytes_back W 51 9 5 ⟨g, i, none⟩ e ((bs.drop i).take e) Try.underlying51 Try.underlying5 Try.underlying9 (fun j hj => ?_)
  · rwa [hl] at this
  · have hadd : (⟨g, i, none⟩ : Addr).add j = ⟨g, i + j, none⟩ := by
      unfold Addr.add
      split <;> simp_all
    have hlets := h.lets
    obtain rfl := hA (by omega)
    rw [hadd, hlets.cellAt (i + j) (by omega)]
    simp [byteV]
    rw [List.getElem?_eq_getElem (by omega)]
    simp
end

set_option maxHeartbeats 6400000 in
set_option maxRecDepth 8000 in
theorem write_any (A1 : Option Addr) (n1 k1 : Nat) (A2 : Option Addr) (n2 k2 : Nat) (ss : List ByteArray) (l : List Int) (width : Int) (w : World) (hn1 : n1 ≤ 100) (hn2 : n2 ≤ 600) (hz : sumSz ss ≤ 3000) (hwd : width ≤ 9223372036854775807)
    (hr1 : Rd w w.heap.size 1 A1 n1 (ss.map Value.string)) (hr2 : Rd w w.heap.size 1 A2 n2 (l.map (Value.int .i64))) :
    Calls Try.prog 10 #[.agg #[.slice A1 n1 k1, .slice A2 n2 k2], .int .i64 width] w (WriteGood ss l width w) := by
  obtain ⟨w0, hw0⟩ : ∃ w0, w0 = w.alloc (.cells #[.slice A1 n1 k1, .slice A2 n2 k2] 25) := ⟨_, rfl⟩
  have Hlen1 := Lib.hid (show ss.length = n1 by have := hr1.len; simp at this; omega)
  have Hlen2 := Lib.hid (show l.length = n2 by have := hr2.len; simp at this; omega)
  have HC := Lib.hid (CodeAt.new (T := 25) (k1 := k1) (k2 := k2) hr1 hr2)
  have HB0 : Hid (Below w.heap.size w w0) := by rw [hw0]; exact (Below.refl _ _).alloc (Nat.le_refl _) _
  rw [← hw0] at HC
  have Hs1 : Hid (∀ s ∈ ss, s.size ≤ 9223372036854775807) := fun s hs => by have := sum_mem hs; omega
  clear hr1 hr2 hz
  obtain ⟨i0, hi0, hz0, hz1, hz2⟩ := info_parts infoStr
  obtain ⟨j0, hj0, jz0, jz1, jz2⟩ := info_parts infoByte8
  refine (callsIn_wide (n := 8)).1 (callsIn_of_wp_marks Try.func10 rfl trivial (wpIn_wide.2 ?_) rfl)
  simp only [Try.ntmps10, List.size_toArray, List.length_cons, List.length_nil, Nat.reduceAdd, Nat.reduceSub, Array.replicate_succ, Array.replicate_zero, List.push_toArray, List.append_toArray, List.nil_append, List.cons_append]
  go_wp2_with fail
  rw [← hw0]
  refine (areLabels_any A1 n1 k1 ss w0 (by omega) Hs1.out (HC.out.r1.more HB0.out.size)).mono ?_
  rintro e w2 ⟨hbi, hb2⟩
  clear hw0
  have Hb1 := Lib.hid (HB0.out.trans (hb2.mono HB0.out.size))
  have HC1 := Lib.hid (HC.out.below hb2)
  clear HC HB0 hb2
  have c0 := HC1.out.c0
  have c1 := HC1.out.c1
  have hlt := HC1.out.lt
  by_cases hlok : LabsOk ss
  · obtain rfl := hbi.of hlok
    have Hlok := Lib.hid hlok
    clear hlok hbi
    go_wp2_with fail
    refine (areNumbers_any A2 n2 k2 l w2 (by omega) (HC1.out.r2.more (by omega))).mono ?_
    rintro e w' ⟨hbi3, rfl⟩
    by_cases hnu : NumOk l
    · obtain rfl := hbi3.of hnu
      have Hnu := Lib.hid hnu
      clear hnu hbi3
      go_wp2
      go_loopw [6, 22] (fun v i wr => ∃ k : Nat, k ≤ n2 ∧ i = .int .i64 k ∧ Hid (wr.ownsRow w2.heap.size 5 1 v (codeF (l.take k)).length ((codeF (l.take k)).map byteV)) ∧ Hid (Below w2.heap.size w2 wr)) (fun _ i _ => n2 - (intOf i).toNat)
      case atStart => exact ⟨0, Nat.zero_le _, rfl, Lib.hid (World.ownsRow_nil _ _ _ _), Lib.hid (Below.refl _ _)⟩
      case round =>
        obtain ⟨k, hk, rfl, hown, hbw⟩ := hrel
        obtain ⟨A6, c6, rfl⟩ := own_slice hown.out
        by_cases hlt2 : k < n2
        · have hkl : k < l.length := by have := Hlen2.out; omega
          obtain ⟨bL, oL, rfl, hbL, hcL⟩ := HC1.out.r2.pos (by omega)
          have hcell := (hbw.out.cell (p := ⟨bL, oL + k, none⟩) (by show bL < _; omega)).trans (hcL k (.int .i64 l[k]) (by simp [hkl]))
          obtain ⟨hx1, hx2⟩ := Hnu.out.le hkl
          have Hct := Lib.hid (code_take hkl)
          have hwl := wr_len hx2
          have hlk := code_len Hnu.out k (by omega)
          have hbLw : bL < wr.heap.size := by have := hbw.out.size; omega
          obtain ⟨x, hx⟩ : ∃ x, x = l[k] := ⟨_, rfl⟩
          rw [← hx] at hcell hx1 hx2 Hct hwl
          clear hx hcL
          obtain ⟨cl, hcl⟩ : ∃ cl, cl = (codeF (l.take k)).length := ⟨_, rfl⟩
          rw [← hcl] at hown hlk ⊢
          have Hsz := Lib.hid (mk_size (wrF x))
          have h63 : Hid (cl + (mkS (wrF x)).size ≤ maxLen) := by show _ ≤ _; rw [mk_size]; simp only [maxLen]; omega
          have hby : Hid (cl + (mkS (wrF x)).size ≤ 140737488355328) := by show _ ≤ _; rw [mk_size]; omega
          have hle : cl + (mkS (wrF x)).size ≤ 4808 := by rw [mk_size]; omega
          have Hcl := Lib.hid hcl
          clear hcl hwl
          go_wp2_with (first
            | (go_at_call 27; refine (written_any x hx1 hx2 _).mono ?_; rintro e w3 ⟨rfl, hb3⟩; have HO3 := Lib.hid (own_below hown.out hb3); have HB3 := Lib.hid (hbw.out.trans (hb3.mono hbw.out.size)); clear hb3)
            | (at_builtin; go_loud (refine Lib.wpList_append_own_string _ rfl (.tmp 26) (.tmp 28) 51 9 rfl w2.heap.size 5 j0 Try.underlying51 Try.underlying9 hj0 jz0 jz1 jz2 _ _ _ rfl HO3.out (mkS (wrF x)) rfl h63.out hby.out HB3.out.size ?_); intro v4 w4 hown4 hgrow4 _; obtain ⟨A7, c7, rfl⟩ := own_slice hown4))
          go_light
          refine ⟨⟨k + 1, by omega, by go_num, Lib.hid ?_, Lib.hid (HB3.out.grown hgrow4 HB3.out.size (fun q hq => (HO3.out.lt q hq).1))⟩, by simp [intOf]; omega⟩
          rw [Hct.out, List.length_append, List.map_append, ← str_bytes (wrF x), ← Hcl.out, ← Hsz.out]
          exact hown4
        · obtain rfl : k = n2 := by omega
          have Hcl := Lib.hid (code_len Hnu.out k (by have := Hlen2.out; omega))
          have e1 : l.take k = l := List.take_of_length_le (by have := Hlen2.out; omega)
          rw [e1] at hown Hcl ⊢
          obtain ⟨bs, hbs⟩ : ∃ bs, bs = codeF l := ⟨_, rfl⟩
          rw [← hbs] at hown Hcl ⊢
          have Hbs := Lib.hid hbs
          have hbl : bs.length ≤ 4800 := by have := Hcl.out; omega
          have HC2 := Lib.hid (HC1.out.below hbw.out)
          have c0' := HC2.out.c0
          have hlt' := HC2.out.lt
          have hws := hbw.out.size
          have H1 := Lib.hid (str_cells ss)
          have h63 : Hid (1 + n1 ≤ maxLen) := by show _ ≤ _; simp only [maxLen]; omega
          have hby : Hid ((1 + n1) * 16 ≤ 140737488355328) := by show _ ≤ _; omega
          have h63b : Hid ((openB :: ss).length + 1 ≤ maxLen) := by have := Hlen1.out; show _ ≤ _; simp only [maxLen, List.length_cons]; omega
          have hbyb : Hid (((openB :: ss).length + 1) * 16 ≤ 140737488355328) := by have := Hlen1.out; show _ ≤ _; simp only [List.length_cons]; omega
          have RA : Hid (∀ ob, Rd (wr.alloc ob) w.heap.size 1 A1 n1 (ss.map Value.string)) := fun ob => HC2.out.r1.below ((Below.refl _ _).alloc (by omega) _)
          have hwz : Hid (∀ ob, w2.heap.size ≤ (wr.alloc ob).heap.size) := fun ob => by simp; omega
          have HF : Hid (∀ (o : Obj) (v4 : Value) (w4 : World), w4.ownsRow w2.heap.size 9 1 v4 (1 + n1) ([Value.string ⟨#[40]⟩] ++ ss.map Value.string) → (wr.alloc o).grownBy w4 (Value.slice (some ⟨wr.heap.size, 0, none⟩) 1 1).ownBlock → ∃ A4 c4, v4 = .slice A4 (1 + n1) c4 ∧ w2.heap.size ≤ w4.heap.size ∧
              WdI w2 w2.heap.size w4.heap.size A6 bs.length c6 bs (openB :: ss) (w4.alloc (.cells #[v4] 22)) v4) := fun o v4 w4 h1 h2 => by
            obtain ⟨A4, c4, rfl⟩ := own_slice h1
            have hb4 : Below wr.heap.size wr w4 := ((Below.refl _ _).alloc (Nat.le_refl _) o).grown h2 (by simp) (fun q hq => by have hq' : some wr.heap.size = some q := hq; injection hq' with hq'; omega)
            have hs4 : w2.heap.size ≤ w4.heap.size := by have := hb4.size; omega
            exact ⟨A4, c4, rfl, hs4, WdI.first (by have := Hlen1.out; simp; omega) (by simpa [openB] using h1) (own_below hown.out hb4) (hbw.out.trans (hb4.mono hws)) hs4⟩
          clear c0 c1 hlt hbs e1
          go_wp2_with (first
            | (at_builtin; go_loud (refine wpList_append_rd _ rfl (.tmp 34) (.tmp 36) 22 rfl w2.heap.size 9 i0 (.string ⟨#[]⟩) 1 16 Try.underlying22 hi0 hz0 hz1 hz2 rfl (by decide) _ _ _ rfl (World.ownsRow_lit wr #[.string ⟨#[40]⟩] 1 hws (by simp [maxLen]) rfl) _ A1 n1 k1 _ rfl (RA.out _) H1.out h63.out hby.out (hwz.out _) ?_); intro v4 w4 hown4 hgrow4; obtain ⟨A4, c4, rfl, hs4, hW⟩ := HF.out _ _ _ hown4 hgrow4; have HW := Lib.hid hW; clear hW hown4 hgrow4; have HN : Hid (∀ j u, [Value.string ⟨#[41]⟩][j]? = some u → ((w4.alloc (.cells #[.slice A4 (1 + n1) c4] 22)).alloc (.cells #[.string ⟨#[41]⟩] 9)).cell? ((⟨w4.heap.size + 1, 0, none⟩ : Addr).add j) = some u) := (fun j u hu => by have h := one_new8 (w4.alloc (.cells #[.slice A4 (1 + n1) c4] 22)) 9 _ hu; rwa [World.size_alloc] at h); have HS : Hid (∀ o, w2.heap.size ≤ ((w4.alloc (.cells #[.slice A4 (1 + n1) c4] 22)).alloc o).heap.size) := (fun o => by simp; omega))
            | (at_builtin; go_loud (refine wpList_append_own _ rfl (.tmp 38) (.tmp 39) 22 rfl w2.heap.size 9 i0 (.string ⟨#[]⟩) 1 16 Try.underlying22 hi0 hz0 hz1 hz2 rfl (by decide) _ _ _ rfl (HW.out.own.alloc _) ⟨w4.heap.size + 1, 0, none⟩ 1 1 [.string ⟨#[41]⟩] rfl rfl (fun j u hu => HN.out j u hu) (one_str8 _) h63b.out hbyb.out (HS.out _) ?_); intro v5 w5 hown5 hgrow5 _; obtain ⟨A5, c5, rfl⟩ := own_slice hown5; obtain ⟨hq5, hW5, -, -⟩ := HW.out.push (s := closeB) hown5 hgrow5 hs4; have hc5 := hq5.cell; have hf5 := hq5.frozen; have hl5 := hq5.lt; have HW5 := Lib.hid hW5; clear hW5 hown5 hgrow5 hq5)
            | (go_at_call 28; refine (chunk_any A6 bs.length c6 (max width 1) (by omega) _).mono ?_; rintro e w' ⟨rfl, rfl⟩))
          refine (wpIn_wide (n := 8)).1 ?_
          simp only [List.length_cons] at HW5
          obtain ⟨w6, hw6⟩ : ∃ w6, w6 = w5.setCell ⟨w4.heap.size, 0, none⟩ (.slice A5 (ss.length + 1 + 1) c5) := ⟨_, rfl⟩
          have hs6 : w6.heap.size = w5.heap.size := by rw [hw6]; simp
          rw [← hw6] at HW5 ⊢
          rw [← hs6]
          have hl6 : w4.heap.size < w6.heap.size := by omega
          clear hw6 hs6 hc5 hf5 hl5 HF HN HS RA hwz
          obtain ⟨K, hK⟩ : ∃ K : Nat, max width 1 = (K : Int) := ⟨(max width 1).toNat, by omega⟩
          have hK1 : 1 ≤ K := by omega
          have hK2 : K ≤ 9223372036854775807 := by omega
          have HK := Lib.hid (show K = (max width 1).toNat by omega)
          rw [hK]
          clear hK
          obtain ⟨g, hg⟩ : ∃ g, 0 < bs.length → A6 = some ⟨g, 0, none⟩ := by
            rcases Nat.eq_zero_or_pos bs.length with h | h
            · exact ⟨0, fun h' => by omega⟩
            · obtain ⟨g, h1, _⟩ := own_at HW5.out.lets h
              exact ⟨g, fun _ => h1⟩
          have hcap : bs.length ≤ c6 := own_cap HW5.out.lets
          have x1 : Boxed ((w6.alloc (.cells #[.slice A6 bs.length c6] 51)).alloc (.cells #[.int .i64 K] 3)) w6.heap.size 51 (.slice A6 bs.length c6) := (Boxed.new w6 _ _).alloc _
          have x2 : Boxed ((w6.alloc (.cells #[.slice A6 bs.length c6] 51)).alloc (.cells #[.int .i64 K] 3)) (w6.heap.size + 1) 3 (.int .i64 K) := by
            have := Boxed.new (w6.alloc (.cells #[.slice A6 bs.length c6] 51)) 3 (.int .i64 K)
            rwa [World.size_alloc] at this
          have hsz6 : w2.heap.size ≤ w6.heap.size := by omega
          have HI := Lib.hid ((HW5.out.alloc hsz6 (.cells #[.slice A6 bs.length c6] 51)).alloc (by simp; omega) (.cells #[.int .i64 K] 3))
          have hsz8 : ((w6.alloc (.cells #[.slice A6 bs.length c6] 51)).alloc (.cells #[.int .i64 K] 3)).heap.size = w6.heap.size + 2 := by simp
          refine wp_rangeK rfl (by omega) (gf := 39) (lb := #[.pointer (some ⟨w6.heap.size, 0, none⟩), .pointer (some ⟨w6.heap.size + 1, 0, none⟩)]) rfl trivial (enters_of Try.func39 (by kernel_rfl) rfl)
            (chunk_stops 7 (by omega) w6.heap.size (w6.heap.size + 1) A6 g bs.length c6 K hg (by omega) hcap hK1 hK2 _ x1.lt x2.lt x1.cell x2.cell)
            (fun h k => ⟨k.1.trans h.1, k.2.trans h.2⟩)
            (fun W l o o' hl hh h1 h2 => by
              have hb := belowK_b (Nat.le_refl _) W l o o' hl hh h1 h2
              exact ⟨hb.cell (p := ⟨w6.heap.size, 0, none⟩) (by show w6.heap.size < _; omega), hb.cell (p := ⟨w6.heap.size + 1, 0, none⟩) (by show w6.heap.size + 1 < _; omega)⟩)
            (Below.refl _ _) (fun _ => rfl)
            (fun pre W => (∃ v, WdI w2 w2.heap.size w4.heap.size A6 bs.length c6 bs (openB :: ss ++ closeB :: pre.map (segS bs)) W v) ∧ Boxed W w6.heap.size 51 (.slice A6 bs.length c6) ∧ Boxed W (w6.heap.size + 1) 3 (.int .i64 K) ∧ w6.heap.size ≤ W.heap.size)
            (fun _ _ _ => False) ?_ (fun _ _ _ _ _ h => h.elim) ?_ (fun x => [(45, .slice (some ⟨g, x.1.1, none⟩) x.1.2 x.1.2), (10, .slice (some ⟨g, x.1.1, none⟩) x.1.2 x.1.2)]) ?_ ?_ ?_ ?_
          · rintro pre X Y row ⟨⟨v, hv⟩, b1, b2, hz⟩ hgr hr
            exact ⟨⟨v, hv.keeps hgr (fun r e => ⟨by have := (hr r e).1; omega, (hr r e).2⟩) (by omega)⟩, box_keeps8 b1 hgr (fun r e => (hr r e).2), box_keeps8 b2 hgr (fun r e => (hr r e).2), by have := hgr.size; omega⟩
          · exact ⟨⟨_, by simpa using HI.out⟩, x1, x2, by omega⟩
          · intro l' x W2 K' hK'
            dsimp only [encS]
            gi_wp2
            simpa using hK'
          · rintro l' pre x W3 ⟨⟨v, hv⟩, b1, b2, hz3⟩ hlt9
            simp only [List.foldl, List.setIfInBounds_toArray, List.set_cons_zero, List.set_cons_succ]
            have hnl : (openB :: ss ++ closeB :: pre.map (segS bs)).length = n1 + 2 + pre.length := by have := Hlen1.out; simp; omega
            have Hxe : Hid (openB :: ss ++ closeB :: (pre ++ [x]).map (segS bs) = (openB :: ss ++ closeB :: pre.map (segS bs)) ++ [segS bs x]) := by show _ = _; simp
            obtain ⟨xs, hxs⟩ : ∃ xs, xs = openB :: ss ++ closeB :: pre.map (segS bs) := ⟨_, rfl⟩
            rw [← hxs] at hv hnl Hxe
            clear hxs
            obtain ⟨A7, c7, rfl⟩ := own_slice hv.own
            have HV := Lib.hid hv
            have cq := hv.box.cell
            have fq := hv.box.frozen
            have lq := hv.box.lt
            have hcv := hv.text hg x.2
            obtain ⟨s, hs⟩ : ∃ s, s = segS bs x := ⟨_, rfl⟩
            rw [show mkS ((bs.drop x.1.1).take x.1.2) = s from hs.symm] at hcv
            have Hs := Lib.hid hs
            have h63c : Hid (xs.length + 1 ≤ maxLen) := by rw [hnl]; show _ ≤ _; simp only [maxLen]; omega
            have hbyc : Hid ((xs.length + 1) * 16 ≤ 140737488355328) := by rw [hnl]; show _ ≤ _; omega
            have hwc : Hid (∀ o, w2.heap.size ≤ (W3.alloc o).heap.size) := fun o => by simp; omega
            have HB1 := Lib.hid b1
            have HB2 := Lib.hid b2
            clear hv hs b1 b2 hnl
            gi_wp2_with (gi_at_builtin; go_loud (refine wpListIn_append_own _ rfl _ _ 22 rfl w2.heap.size 9 i0 (.string ⟨#[]⟩) 1 16 Try.underlying22 hi0 hz0 hz1 hz2 rfl (by decide) _ _ _ rfl (HV.out.own.alloc _) ⟨W3.heap.size, 0, none⟩ 1 1 [.string s] rfl rfl (fun j u hu => one_new8 W3 _ _ hu) (one_str8 _) h63c.out hbyc.out (hwc.out _) ?_); intro v' w7 hown7 hgrow7 _; obtain ⟨A8, c8, rfl⟩ := own_slice hown7; obtain ⟨hq7, hW7, hko, hoth⟩ := HV.out.push hown7 hgrow7 hs4; have hc7 := hq7.cell; have hf7 := hq7.frozen; have hl7 := hq7.lt)
            have y1 := hoth _ _ _ HB1.out (by decide) (by omega)
            have y2 := hoth _ _ _ HB2.out (by decide) (by omega)
            have y3 := hko.size
            exact ⟨hko, ⟨y1.cell.trans HB1.out.cell.symm, y2.cell.trans HB2.out.cell.symm⟩, ⟨_, by rw [Hxe.out, ← Hs.out]; exact hW7⟩, y1, y2, by omega⟩
          · rintro D ys W3 hD hys ⟨⟨v, hv⟩, b1, b2, hz3⟩ hKd
            have Hi : Hid (WrIs ss l width (wordsF ss l K) 0) := by rw [HK.out]; exact .inr (.inr ⟨Hlok.out, Hnu.out, rfl, rfl⟩)
            have Hw : Hid (wordsF ss l K = openB :: ss ++ closeB :: ys.map (segS bs)) := by
              show _ = _
              rw [wordsF, ← Hbs.out, hys, chunksF, ← List.drop_zero (l := bs), ← seg_chunks, List.map_map]
              rfl
            obtain ⟨xs, hxs⟩ : ∃ xs, xs = openB :: ss ++ closeB :: ys.map (segS bs) := ⟨_, rfl⟩
            rw [← hxs] at hv Hw
            obtain ⟨A7, c7, rfl⟩ := own_slice hv.own
            have HV := Lib.hid hv
            have cq := hv.box.cell
            have lq := hv.box.lt
            clear hv hys b1 b2 hxs
            simp only [Exit.inBlock, Exit.then]
            go_wp2
            (try simp only [Exit.inBlock, Exit.then])
            refine ⟨by simp, .inl ⟨_, _, rfl, run_takeDeferred hKd, ?_⟩⟩
            refine ⟨_, results_tmp2 rfl _ _ _, wordsF ss l K, 0, _, Hi.out, rfl, ?_, ?_⟩
            · rw [Hw.out]
              exact ownsRow_putObj (own_base8 HV.out.own Hb1.out.size) _ hKd rfl
            · exact (Hb1.out.trans (HV.out.bel.mono Hb1.out.size)).trans (belowK_b (w := w) (Nat.le_refl _) W3 D _ _ (by have := Hb1.out.size; omega) hKd rfl rfl)
          · exact fun _ _ _ _ _ _ h => h.elim
    · obtain rfl := hbi3.not hnu
      have Hi := Lib.hid (show WrIs ss l width [] 21 from .inr (.inl ⟨Hlok.out, hnu, rfl, rfl⟩))
      clear hnu
      go_wp2
      (try simp only [Exit.inBlock, Exit.then])
      refine ⟨_, results_tmp2 rfl _ _ _, ?_⟩
      exact ⟨[], 21, _, Hi.out, rfl, World.ownsRow_nil _ _ _ _, Hb1.out⟩
  · obtain rfl := hbi.not hlok
    have Hi := Lib.hid (show WrIs ss l width [] 20 from .inl ⟨hlok, rfl, rfl⟩)
    clear hlok
    go_wp2
    (try simp only [Exit.inBlock, Exit.then])
    refine ⟨_, results_tmp2 rfl _ _ _, ?_⟩
    exact ⟨[], 20, _, Hi.out, rfl, World.ownsRow_nil _ _ _ _, Hb1.out⟩
end Go.Proofs.Ytjdomdeejibnmaa.Tok
