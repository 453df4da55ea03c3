/- entries: the list of a tree's entries. -/
import Derived.Test.YtdffgkhlkbaecaaAll
import Derived.Deep.AppendLies
import Derived.Test.YtdffgkhlkbaecaaRSets5
import Derived.Test.YtdffgkhlkbaecaaRefMath
namespace Go.Proofs.Ytdffgkhlkbaecaa.Tok
open Go.RowKit Go.Proofs.Ytdffgkhlkbaecaa
attribute [local go_sem] Oper.semAt_some

theorem all_in (n : Nat) (p : Option Addr) (w : World) : CallsIn Fence.wide n Try.prog 52 #[.agg #[.pointer p]] w fun e w' => e = .returned (.func (.func 63) #[] #[.pointer (some ⟨w.heap.size, 0, none⟩)]) ∧ w' = w.alloc (.cells #[.pointer p] 27) := by
  refine callsIn_of_wp Try.func52 rfl trivial ?_ rfl
  simp only [Try.ntmps52, List.size_toArray, List.length_cons, List.length_nil, Nat.reduceAdd, Nat.reduceSub, Array.replicate_succ, Array.replicate_zero, List.push_toArray, List.append_toArray, List.nil_append, List.cons_append]
  gi_wp2
  go_ret
  exact ⟨rfl, rfl⟩
theorem all_gives (n : Nat) (hn : 3 ≤ n) (p : Option Addr) (t : Tr ByteArray) (w w1 : World) (hI : Is Value.string 98 w p t) (hts : t.size ≤ 1000000) (hb : Below w.heap.size w w1) :
    Gives 25 Fence.wide n Try.prog 63 #[.pointer (some ⟨w1.heap.size, 0, none⟩)] encE (KpA w.heap.size (w1.heap.size + 3)) t.ents (w1.alloc (.cells #[.pointer p] 27)) := by
  intro l J W hW hJ hY h0
  have hs := hW.size
  simp at hs
  have hW1 : Below w.heap.size w W := (hb.alloc hb.size _).trans (hW.mono (by have := hb.size; simp; omega))
  exact all1_in n hn l w1.heap.size (w1.heap.size + 3) p t J w W hI hts hW1 hJ (by omega) (by omega) ((hW.cell (p := ⟨w1.heap.size, 0, none⟩) (by simp)).trans (by rw [cell_of_row _ _ _ _ _ _ (heap_alloc_new w1 _)]; rfl)) hY h0
theorem own_turns {T e base z n B : Nat} {W W' : World} {row : Option Nat} {v : Value} {xs : List Value} (h : W.ownsRow base e z v n xs) (hg : W.grownBy W' row) (ht : Turns T B W row) (hT : T ≠ e) : W'.ownsRow base e z v n xs := by
  refine ⟨h.1, ?_⟩
  rcases h.2 with h1 | ⟨g, cap, cur, h1, h2, h3, h4⟩
  · exact .inl h1
  · exact .inr ⟨g, cap, cur, h1, h2, box_turns h3 hg ht hT, h4⟩
/-- Between two rounds. -/
structure EnI (w : World) (pre : List (ByteArray × Int)) (v : Value) (W : World) : Prop where
  box : W.heap[w.heap.size + 1]? = some (.cells #[v] 33 (0, 0))
  own : W.ownsRow (w.heap.size + 2) 73 2 v pre.length (pre.flatMap enV)
  bel : Below w.heap.size w W
section
variable {w W w1 : World} {pre : List (ByteArray × Int)} {v : Value}
theorem EnI.turns (h : EnI w pre v W) {W' : World} {row : Option Nat} {B : Nat} (hg : W.grownBy W' row) (ht : Turns 25 B W row) (hB : w.heap.size ≤ B) : EnI w pre v W' :=
  ⟨box_turns h.box hg ht (by decide), own_turns h.own hg ht (by decide), h.bel.grown hg h.bel.size fun k e => Nat.le_trans hB (ht k e).1⟩
theorem EnI.push (h : EnI w pre v W) {x : ByteArray × Int} {tmp : Obj} {v1 : Value} (hg : (W.alloc tmp).grownBy w1 v.ownBlock) (ho : w1.ownsRow (w.heap.size + 2) 73 2 v1 (pre.length + 1) (pre.flatMap enV ++ enV x)) (D : Nat) :
    w1.cell? ⟨w.heap.size + 1, 0, none⟩ = some v ∧ w1.frozen? ⟨w.heap.size + 1, 0, none⟩ = false ∧ EnI w (pre ++ [x]) v1 (w1.setCell ⟨w.heap.size + 1, 0, none⟩ v1) ∧ KpA w.heap.size D W (w1.setCell ⟨w.heap.size + 1, 0, none⟩ v1) ∧ KeepsFrom D W (w1.setCell ⟨w.heap.size + 1, 0, none⟩ v1) := by
  have hgg := (World.grownBy_alloc W tmp v.ownBlock).trans hg
  have hb1 := (hgg.block (w.heap.size + 1) (Array.getElem?_eq_some_iff.1 h.box).1 (own_apartS h.own h.box (by decide))).trans h.box
  have hsz := h.bel.size
  have hbel : Below w.heap.size W w1 := (Below.refl _ W).grown hgg hsz fun k e => by have := (h.own.lt k e).1; omega
  have keep : ∀ (i : Nat) (cs : Array Value) (T : TypeId) (fr : Nat × Nat), W.heap[i]? = some (.cells cs T fr) → 73 ≠ T → 33 ≠ T → (w1.setCell ⟨w.heap.size + 1, 0, none⟩ v1).heap[i]? = some (.cells cs T fr) := fun i cs T fr hi h1 h2 => by
    have k1 := (hgg.block i (Array.getElem?_eq_some_iff.1 hi).1 (own_apartS h.own hi h1)).trans hi
    rw [heap_setCell_other _ _ _ _ (by
      show i ≠ w.heap.size + 1
      rintro rfl
      rw [h.box] at hi
      injection hi with hi
      injection hi with _ hi
      exact h2 hi)]
    exact k1
  have other : ∀ (i : Nat) (o : Obj), W.heap[i]? = some o → o.isCells = false → (w1.setCell ⟨w.heap.size + 1, 0, none⟩ v1).heap[i]? = some o := fun i o hi hc => by
    have k1 := (hgg.block i (Array.getElem?_eq_some_iff.1 hi).1 (by
      intro e
      rcases h.own.2 with ⟨rfl, _⟩ | ⟨g, cap, cur, rfl, _, h3, _⟩
      · cases e
      · injection e with e
        subst e
        rw [hi] at h3
        injection h3 with h3
        subst h3
        cases hc)).trans hi
    rw [heap_setCell_other _ _ _ _ (by
      show i ≠ w.heap.size + 1
      rintro rfl
      rw [h.box] at hi
      injection hi with hi
      subst hi
      cases hc)]
    exact k1
  have hs1 : W.heap.size ≤ (w1.setCell ⟨w.heap.size + 1, 0, none⟩ v1).heap.size := by have := hgg.size; simpa using this
  have hb2 : Below w.heap.size W (w1.setCell ⟨w.heap.size + 1, 0, none⟩ v1) := hbel.setCell (by show w.heap.size ≤ w.heap.size + 1; omega) _
  refine ⟨(cell_of_row _ _ 0 _ _ _ hb1).trans rfl, frozen_of_row _ _ _ _ _ hb1, ⟨heap_setCell_same w1 _ 0 _ _ _ hb1, ?_, h.bel.trans hb2⟩, ⟨⟨hb2, fun i cs fr hi => keep i cs _ fr hi (by decide) (by decide)⟩, fun i cs fr hi => keep i cs _ fr hi (by decide) (by decide), fun k o _ hk hc => other k o hk hc, hs1⟩, ⟨hs1, fun k o _ hk hc => other k o hk hc⟩⟩
  rw [List.flatMap_append, List.length_append]
  have := own_setCell_other ho (a := ⟨w.heap.size + 1, 0, none⟩) (own_apartS ho hb1 (by decide)) v1
  simpa using this
end
set_option maxHeartbeats 3200000 in
set_option maxRecDepth 8000 in
theorem entries_in (n : Nat) (hn : 5 ≤ n) (p : Option Addr) (t : Tr ByteArray) (w : World) (hI : Is Value.string 98 w p t) (hts : t.size ≤ 1000000) :
    CallsIn Fence.wide n Try.prog 32 #[.agg #[.pointer p]] w fun e w' => ∃ v, e = .returned v ∧ Hid (w'.ownsRow w.heap.size 73 2 v t.ents.length (t.ents.flatMap enV)) ∧ Below w.heap.size w w' := by
  have h1 : 1 ≤ n := by omega
  obtain ⟨i0, hi, hz0, hz1, hz2⟩ := info_parts infoEn
  have HI := Lib.hid hI
  clear hI
  refine callsIn_of_wp_marks Try.func32 rfl trivial ?_ rfl
  simp only [Try.ntmps32, List.size_toArray, List.length_cons, List.length_nil, Nat.reduceAdd, Nat.reduceSub, Array.replicate_succ, Array.replicate_zero, List.push_toArray, List.append_toArray, List.nil_append, List.cons_append]
  gi_wp2_with fail
  refine ⟨trivial, (all_in (n - 1) p _).mono ?_⟩
  rintro e w' ⟨rfl, rfl⟩
  gi_wp2
  have hb2 : Below w.heap.size w ((w.alloc (.cells #[.pointer p] 27)).alloc (.cells #[.slice none 0 0] 33)) := ((Below.refl _ _).alloc (Nat.le_refl _) _).alloc (by simp) _
  have hG := all_gives (n - 1) (by omega) p t w _ HI.out hts hb2
  simp only [World.size_alloc] at hG
  refine wp_range2 25 rfl h1 (gf := 63) (lb := #[.pointer (some ⟨w.heap.size + 1 + 1, 0, none⟩)]) rfl trivial (enters_of Try.func63 (by kernel_rfl) rfl) hG
    KpA.trans (fun W2 r r' h => KpA.putLoop h (by simp; omega) (by simp)) (Below.refl _ _) (fun _ => rfl)
    (fun pre W' => ∃ v, EnI w pre v W') ?_ ?_
    (fun x => { tmps := #[.agg #[.pointer p], .pointer (some ⟨w.heap.size, 0, none⟩), .slice none 0 0, .pointer (some ⟨w.heap.size + 1, 0, none⟩), .string x.1, .int .i64 x.2, .agg #[.pointer p], .func (.func 63) #[] #[.pointer (some ⟨w.heap.size + 1 + 1, 0, none⟩)], .string x.1, .int .i64 x.2, undef, undef, undef, undef, undef, undef, undef], defers := [] }) ?_ ?_ ?_
  · rintro pre A B row ⟨v, h⟩ hg ht
    exact ⟨v, h.turns hg ht (by simp; omega)⟩
  · refine ⟨_, ?_, World.ownsRow_nil _ _ _ _, hb2.alloc (by simp; omega) _⟩
    exact (heap_alloc_old ((w.alloc (.cells #[.pointer p] 27)).alloc (.cells #[.slice none 0 0] 33)) (.cells #[.pointer p] 27) (w.heap.size + 1) (by simp)).trans (ptr_alloc_2 w _ _)
  · intro l' x W2 K hK
    dsimp only [encE]
    gi_wp2
    exact hK
  · rintro l' pre x W3 ⟨v, h⟩ hpre
    have hlen : pre.length + 1 ≤ 1000000 := by
      have h2 := hpre.length_le
      rw [List.length_append, Tr.ents_len] at h2
      simp at h2
      omega
    have c3 := (cell_of_row _ _ 0 _ _ _ h.box).trans (rfl : _ = some v)
    have hlt3 := (Array.getElem?_eq_some_iff.1 h.box).1
    have HE := Lib.hid h
    have h63 : pre.length + 1 ≤ maxLen := by simp only [maxLen]; omega
    have hby : (pre.length + 1) * 24 ≤ 140737488355328 := by omega
    obtain ⟨xk, xv⟩ := x
    have HN : Hid (∀ v' w1, w1.ownsRow (w.heap.size + 2) 73 2 v' (pre.length + 1) (pre.flatMap enV ++ [.string xk, .int .i64 xv]) → (W3.alloc (.cells #[.string xk, .int .i64 xv] 73)).grownBy w1 v.ownBlock →
        w1.cell? ⟨w.heap.size + 1, 0, none⟩ = some v ∧ w1.frozen? ⟨w.heap.size + 1, 0, none⟩ = false ∧ Hid (EnI w (pre ++ [(xk, xv)]) v' (w1.setCell ⟨w.heap.size + 1, 0, none⟩ v')) ∧ Hid (KpA w.heap.size (w.heap.size + 1 + 1 + 3) W3 (w1.setCell ⟨w.heap.size + 1, 0, none⟩ v')) ∧ Hid (KeepsFrom (((w.alloc (.cells #[.pointer p] 27)).alloc (.cells #[.slice none 0 0] 33)).alloc (.cells #[.pointer p] 27)).heap.size W3 (w1.setCell ⟨w.heap.size + 1, 0, none⟩ v'))) := fun v' w1 k1 k2 => by
      obtain ⟨a1, a2, a3, a4, _⟩ := HE.out.push (x := (xk, xv)) k2 k1 (w.heap.size + 1 + 1 + 3)
      obtain ⟨_, _, _, _, a5⟩ := HE.out.push (x := (xk, xv)) k2 k1 (((w.alloc (.cells #[.pointer p] 27)).alloc (.cells #[.slice none 0 0] 33)).alloc (.cells #[.pointer p] 27)).heap.size
      exact ⟨a1, a2, a3, a4, a5⟩
    have hbase : w.heap.size + 2 ≤ W3.heap.size := by omega
    clear h hpre
    gi_wp2_with (gi_at_builtin; refine wpListIn_append_own _ rfl (.tmp 10) (.tmp 14) 33 rfl (w.heap.size + 2) 73 i0 _ 2 24 Try.underlying33 hi hz0 hz1 hz2 rfl (by decide) v pre.length (pre.flatMap enV) rfl (HE.out.own.alloc _) ⟨W3.heap.size, 0, none⟩ 1 1 [.string xk, .int .i64 xv] rfl rfl (World.news_of_block (cs := #[.string xk, .int .i64 xv]) (t := 73) (fr := (0, 0)) (heap_alloc_new W3 _)) (by simp [Value.oneCell']) h63 hby (by simp; omega) ?_; intro v' w1 hown' hgrow _; obtain ⟨g', cap', rfl⟩ := ownsRow_succ hown'; obtain ⟨k1, k2, k3, k4, k5⟩ := HN.out _ _ hown' hgrow; clear hown' hgrow)
    exact ⟨rfl, k5.out, k4.out, _, k3.out⟩
  · rintro W4 ⟨v, h⟩ hD
    have c3 := (cell_of_row _ _ 0 _ _ _ h.box).trans (rfl : _ = some v)
    have HE := Lib.hid h
    clear h
    gi_wp2
    refine ⟨by simp, .inl ⟨_, _, rfl, run_takeDeferred hD, ?_⟩⟩
    refine ⟨_, results_tmp rfl _ _ _, _, rfl, own_base (ownsRow_putObj HE.out.own _ hD rfl) (by omega), HE.out.bel.grown (grownBy_putObj' _ _ _) HE.out.bel.size fun k e => ?_⟩
    cases e
    simp
    omega
end Go.Proofs.Ytdffgkhlkbaecaa.Tok
