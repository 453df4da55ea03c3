/- A step: a tree made of those that are there. -/
import Derived.Test.YtdffgkhlkbaecaaFew
import Derived.Test.YtdffgkhlkbaecaaTreeJoinT
import Derived.Test.YtdffgkhlkbaecaaTreeAvl
import Derived.Deep.RegionHeld3
namespace Go.Proofs.Ytdffgkhlkbaecaa.Tok
open Go.RowKit Go.Proofs.Ytdffgkhlkbaecaa

abbrev TrS := Tr ByteArray
def putV (t : TrS) (k : ByteArray) (x : Int) : TrS := Tr.join (Tr.split (cmpS k) t).1 k x (Tr.split (cmpS k) t).2
def cutV (t : TrS) (k : ByteArray) : TrS := Tr.concat (Tr.split (cmpS k) t).1 (Tr.split (cmpS k) t).2
def atT (ts : List TrS) (i : Nat) : TrS := (ts[i % ts.length]?).getD .nil
def stepV (ts : List TrS) (o : OpT) : TrS :=
  let t := atT ts o.tree
  if o.kind % 8 < 3 then putV t o.key o.val
  else if o.kind % 8 = 3 then cutV t o.key
  else if o.kind % 8 = 4 then (Tr.split (cmpS o.key) t).1
  else if o.kind % 8 = 5 then (Tr.split (cmpS o.key) t).2
  else if o.kind % 8 = 6 then (joinT t (atT ts o.other)).1
  else t
/-- Trees whose pointers stand in a row. -/
def AllIs (w : World) (ps : List (Option Addr)) (ts : List TrS) : Prop := ps.length = ts.length ∧ ∀ (k : Nat) (p : Option Addr) (t : TrS), ps[k]? = some p → ts[k]? = some t → Is Value.string 98 w p t

set_option maxHeartbeats 3200000 in
set_option maxRecDepth 8000 in
theorem step_any (A : Option Addr) (n c : Nat) (ps : List (Option Addr)) (ts : List TrS) (o : OpT) (w : World) (hn0 : 0 < n) (hn : n ≤ 1000) (hr : Rd w w.heap.size 1 A n (ps.map Value.pointer)) (hts : AllIs w ps ts) (hz : ∀ t ∈ ts, t.size ≤ 1000) (hkd : o.kind ≤ 255) (htr : o.tree ≤ 255) (hot : o.other ≤ 255) :
    Calls Try.prog 7 #[.slice A n c, .agg #[.int .u8 o.kind, .int .u8 o.tree, .int .u8 o.other, .string o.key, .int .i64 o.val]] w (MakesT Value.string 98 w (stepV ts o)) := by
  have hlen : ps.length = n := by have := hr.len; simpa using this
  obtain ⟨hl2, his⟩ := hts
  obtain ⟨b, off, rfl, hbb, hcc⟩ := hr.pos hn0
  obtain ⟨kd, tr, ot, key, val⟩ := o
  simp only at hkd htr hot ⊢
  have h1 : tr % n < ps.length := by rw [hlen]; exact Nat.mod_lt _ hn0
  have h2 : ot % n < ps.length := by rw [hlen]; exact Nat.mod_lt _ hn0
  have h1' : tr % n < ts.length := by omega
  have h2' : ot % n < ts.length := by omega
  have hc1 := hcc (tr % n) (.pointer ps[tr % n]) (by rw [List.getElem?_map, List.getElem?_eq_getElem h1]; rfl)
  have hc2 := hcc (ot % n) (.pointer ps[ot % n]) (by rw [List.getElem?_map, List.getElem?_eq_getElem h2]; rfl)
  have ht := his _ _ _ (List.getElem?_eq_getElem h1) (List.getElem?_eq_getElem h1')
  have hu := his _ _ _ (List.getElem?_eq_getElem h2) (List.getElem?_eq_getElem h2')
  have zt := hz _ (List.getElem_mem h1')
  have zu := hz _ (List.getElem_mem h2')
  have et : atT ts tr = ts[tr % n] := by unfold atT; rw [← hl2, hlen, List.getElem?_eq_getElem h1']; rfl
  have eu : atT ts ot = ts[ot % n] := by unfold atT; rw [← hl2, hlen, List.getElem?_eq_getElem h2']; rfl
  have Hv : Hid (stepV ts ⟨kd, tr, ot, key, val⟩ = if kd % 8 < 3 then putV ts[tr % n] key val else if kd % 8 = 3 then cutV ts[tr % n] key else if kd % 8 = 4 then (Tr.split (cmpS key) ts[tr % n]).1 else if kd % 8 = 5 then (Tr.split (cmpS key) ts[tr % n]).2 else if kd % 8 = 6 then (joinT ts[tr % n] ts[ot % n]).1 else ts[tr % n]) := by
    show stepV ts ⟨kd, tr, ot, key, val⟩ = _
    unfold stepV
    simp only [et, eu]
  generalize stepV ts ⟨kd, tr, ot, key, val⟩ = R at Hv ⊢
  generalize ts[tr % n] = t at Hv ht zt
  generalize ts[ot % n] = u at Hv hu zu
  generalize ps[tr % n] = p at hc1 ht
  generalize ps[ot % n] = q at hc2 hu
  clear et eu h1 h2 h1' h2' his hl2 hz hcc hr hlen
  obtain ⟨ix, hix⟩ : ∃ ix, ix = tr % n := ⟨_, rfl⟩
  obtain ⟨iy, hiy⟩ : ∃ iy, iy = ot % n := ⟨_, rfl⟩
  have hxn : ix < n := by rw [hix]; exact Nat.mod_lt _ hn0
  have hyn : iy < n := by rw [hiy]; exact Nat.mod_lt _ hn0
  have hxm : ((tr : Int) % (n : Int)) = (ix : Int) := by rw [hix]; exact (Int.natCast_emod tr n).symm
  have hym : ((ot : Int) % (n : Int)) = (iy : Int) := by rw [hiy]; exact (Int.natCast_emod ot n).symm
  rw [← hix] at hc1
  rw [← hiy] at hc2
  clear hix hiy
  have HT := Lib.hid ht
  have HU := Lib.hid hu
  clear ht hu
  have HHv := Lib.hid hc2
  have Hym := Lib.hid hym
  clear hc2 hym
  go_enter Try.func7, Try.ntmps7
  go_wp2_with fail
  generalize hwq : World.alloc (World.alloc (World.alloc _ _) _) _ = wq
  have hbq : Below w.heap.size w wq := by subst hwq; exact (((Below.refl _ _).alloc (Nat.le_refl _) _).alloc (by simp) _).alloc (by simp; omega) _
  have hsq : wq.heap.size = w.heap.size + 3 := by subst hwq; simp
  have hr0 : wq.heap[w.heap.size]? = some (.cells #[.int .u8 kd, .int .u8 tr, .int .u8 ot, .string key, .int .i64 val] 31 (0, 0)) := by subst hwq; rw [heap_alloc_old _ _ (by simp; omega), heap_alloc_old _ _ (by simp)]; exact heap_alloc_new _ _
  have hr1 : wq.heap[w.heap.size + 1]? = some (.cells #[.pointer none] 27 (0, 0)) := by subst hwq; rw [heap_alloc_old _ _ (by simp)]; exact ptr_alloc_2 _ _ _
  have hr2 : wq.heap[w.heap.size + 1 + 1]? = some (.cells #[.pointer p] 27 (0, 0)) := by
    subst hwq
    have := heap_alloc_new ((w.alloc (.cells #[.int .u8 kd, .int .u8 tr, .int .u8 ot, .string key, .int .i64 val] 31)).alloc (.cells #[.pointer none] 27)) (.cells #[.pointer p] 27)
    rwa [show ((w.alloc (.cells #[.int .u8 kd, .int .u8 tr, .int .u8 ot, .string key, .int .i64 val] 31)).alloc (.cells #[.pointer none] 27)).heap.size = w.heap.size + 1 + 1 by simp] at this
  clear hwq
  refine (splitT_any p t key wq (HT.out.below hbq) (by omega)).mono ?_
  rintro e w1 ⟨p1, q1, rfl, i1, i2, hb1⟩
  have I1 := Lib.hid i1
  have I2 := Lib.hid i2
  have hb : Below w.heap.size w w1 := hbq.trans (hb1.mono hbq.size)
  have hw1 : w.heap.size + 3 ≤ w1.heap.size := by have := hb1.size; omega
  have HR : Hid (∀ w', Below w1.heap.size w1 w' → Below w.heap.size w w' ∧ w.heap.size + 3 ≤ w'.heap.size ∧ w'.heap[w.heap.size + 1]? = some (.cells #[.pointer none] 27 (0, 0)) ∧ w'.cell? ⟨w.heap.size, 0, none⟩ = some (.int .u8 kd) ∧ w'.cell? ⟨w.heap.size, 2, none⟩ = some (.int .u8 ot) ∧ w'.cell? ⟨w.heap.size, 3, none⟩ = some (.string key) ∧ w'.cell? ⟨w.heap.size, 4, none⟩ = some (.int .i64 val) ∧ w'.cell? ⟨w.heap.size + 1 + 1, 0, none⟩ = some (.pointer p) ∧
      w'.cell? ⟨b, off + iy, none⟩ = some (.pointer q) ∧ Is Value.string 98 w' p t ∧ Is Value.string 98 w' q u ∧ Is Value.string 98 w' p1 (Tr.split (cmpS key) t).1 ∧ Is Value.string 98 w' q1 (Tr.split (cmpS key) t).2) := fun w' h => by
    have h' : Below wq.heap.size wq w' := hb1.trans (h.mono hb1.size)
    have h0 : Below w.heap.size w w' := hbq.trans (h'.mono hbq.size)
    have a0 := (h'.block w.heap.size (by omega)).trans hr0
    have a1 := (h'.block (w.heap.size + 1) (by omega)).trans hr1
    have a2 := (h'.block (w.heap.size + 1 + 1) (by omega)).trans hr2
    refine ⟨h0, by have := h.size; omega, a1, ?_, ?_, ?_, ?_, ?_, (h0.cell (p := ⟨b, off + iy, none⟩) hbb).trans HHv.out, HT.out.below h0, HU.out.below h0, I1.out.below h, I2.out.below h⟩
    · exact (cell_of_row _ _ 0 _ _ _ a0).trans rfl
    · exact (cell_of_row _ _ 2 _ _ _ a0).trans rfl
    · exact (cell_of_row _ _ 3 _ _ _ a0).trans rfl
    · exact (cell_of_row _ _ 4 _ _ _ a0).trans rfl
    · exact (cell_of_row _ _ 0 _ _ _ a2).trans rfl
  obtain ⟨-, -, -, c0, c2, c3, c4, c5, c6, -⟩ := HR.out w1 (Below.refl _ _)
  have hbbw : b < w1.heap.size := by omega
  have hl0 : w.heap.size < w1.heap.size := by omega
  have hl1 : w.heap.size + 1 < w1.heap.size := by omega
  have hl2 : w.heap.size + 1 + 1 < w1.heap.size := by omega
  clear hr0 hr1 hr2 hb hb1 hbq hsq hc1 i1 i2
  obtain ⟨m, hm⟩ : ∃ m, m = kd % 8 := ⟨_, rfl⟩
  have hm8 : m < 8 := by omega
  have hmi : ((kd : Int) % 8) = (m : Int) := by omega
  rw [← hm] at Hv
  clear hm
  have HB : Hid (∀ o1 o2, Below w1.heap.size w1 ((w1.alloc o1).alloc o2)) := fun o1 o2 => ((Below.refl _ _).alloc (Nat.le_refl _) _).alloc (by simp) _
  have hcs : m < 3 ∨ m = 3 ∨ m = 4 ∨ m = 5 ∨ m = 6 ∨ m = 7 := by omega
  rcases hcs with h | rfl | rfl | rfl | rfl | rfl
  · have hv : R = putV t key val := Hv.out.trans (by rw [if_pos h])
    have HV := Lib.hid hv
    clear hv Hv
    have h012 : m = 0 ∨ m = 1 ∨ m = 2 := by omega
    clear h
    rcases h012 with rfl | rfl | rfl
    all_goals
      go_wp2_with fail
      refine (putT_any p t key val _ (HR.out _ (HB.out _ _)).2.2.2.2.2.2.2.2.2.1 (by omega)).mono ?_
      rintro e w3 ⟨r, rfl, hR, hb3⟩
      have hb13 : Below w1.heap.size w1 w3 := (HB.out _ _).trans (hb3.mono (HB.out _ _).size)
      have Hrow := Lib.hid (HR.out w3 hb13).2.2.1
      have HX : Hid (Is Value.string 98 (w3.setRow (w.heap.size + 1) #[.pointer r]) r R ∧ Below w.heap.size w (w3.setRow (w.heap.size + 1) #[.pointer r])) :=
        ⟨by rw [HV.out]; exact hR.setRow Hrow.out _, setRow_below (HR.out w3 hb13).1 (by omega) _⟩
      clear hR hb3 hb13
      go_wp2_with (refine wpList_store_row rfl 27 (.tmp 4) (.tmp 38) rfl (w.heap.size + 1) #[.pointer r] rfl rfl 27 #[.pointer none] Hrow.out sizeTree rfl (one_ptr _) ?_)
      (try simp only [Exit.inBlock, Exit.then])
      refine bodyPost_ret (results_cell_row rfl _ _ (w.heap.size + 1) 27 #[.pointer r] (0, 0) _ rfl (setRow_heap _ _ _ _ _ _ Hrow.out) Try.underlying27 rfl sizeTree) rfl ?_
      exact ⟨r, rfl, HX.out.1, HX.out.2⟩
  · go_wp2_with fail
    refine (deleteT_any p t key _ (HR.out _ (HB.out _ _)).2.2.2.2.2.2.2.2.2.1 (by omega)).mono ?_
    rintro e w3 ⟨r, rfl, hR, hb3⟩
    have hb13 : Below w1.heap.size w1 w3 := (HB.out _ _).trans (hb3.mono (HB.out _ _).size)
    have Hrow := Lib.hid (HR.out w3 hb13).2.2.1
    have HX : Hid (Is Value.string 98 (w3.setRow (w.heap.size + 1) #[.pointer r]) r R ∧ Below w.heap.size w (w3.setRow (w.heap.size + 1) #[.pointer r])) :=
      ⟨by rw [show R = cutV t key from Hv.out.trans (by simp)]; exact hR.setRow Hrow.out _, setRow_below (HR.out w3 hb13).1 (by omega) _⟩
    clear hR hb3 hb13
    go_wp2_with (refine wpList_store_row rfl 27 (.tmp 4) (.tmp 44) rfl (w.heap.size + 1) #[.pointer r] rfl rfl 27 #[.pointer none] Hrow.out sizeTree rfl (one_ptr _) ?_)
    (try simp only [Exit.inBlock, Exit.then])
    refine bodyPost_ret (results_cell_row rfl _ _ (w.heap.size + 1) 27 #[.pointer r] (0, 0) _ rfl (setRow_heap _ _ _ _ _ _ Hrow.out) Try.underlying27 rfl sizeTree) rfl ?_
    exact ⟨r, rfl, HX.out.1, HX.out.2⟩
  · have HX : Hid (∀ o1 o2, ((w1.alloc o1).alloc o2).heap[w.heap.size + 1]? = some (.cells #[.pointer none] 27 (0, 0)) ∧ Is Value.string 98 (((w1.alloc o1).alloc o2).setRow (w.heap.size + 1) #[.pointer p1]) p1 R ∧ Below w.heap.size w (((w1.alloc o1).alloc o2).setRow (w.heap.size + 1) #[.pointer p1])) := fun o1 o2 =>
      have z := HR.out _ (HB.out o1 o2)
      ⟨z.2.2.1, by rw [show R = (Tr.split (cmpS key) t).1 from Hv.out.trans (by simp)]; exact z.2.2.2.2.2.2.2.2.2.2.2.1.setRow z.2.2.1 _, setRow_below z.1 (by omega) _⟩
    go_wp2_with (refine wpList_store_row rfl 27 (.tmp 4) (.tmp 47) rfl (w.heap.size + 1) #[.pointer p1] rfl rfl 27 #[.pointer none] (HX.out _ _).1 sizeTree rfl (one_ptr _) ?_)
    (try simp only [Exit.inBlock, Exit.then])
    refine bodyPost_ret (results_cell_row rfl _ _ (w.heap.size + 1) 27 #[.pointer p1] (0, 0) _ rfl (setRow_heap _ _ _ _ _ _ (HX.out _ _).1) Try.underlying27 rfl sizeTree) rfl ?_
    exact ⟨p1, rfl, (HX.out _ _).2.1, (HX.out _ _).2.2⟩
  · have HX : Hid (∀ o1 o2, ((w1.alloc o1).alloc o2).heap[w.heap.size + 1]? = some (.cells #[.pointer none] 27 (0, 0)) ∧ Is Value.string 98 (((w1.alloc o1).alloc o2).setRow (w.heap.size + 1) #[.pointer q1]) q1 R ∧ Below w.heap.size w (((w1.alloc o1).alloc o2).setRow (w.heap.size + 1) #[.pointer q1])) := fun o1 o2 =>
      have z := HR.out _ (HB.out o1 o2)
      ⟨z.2.2.1, by rw [show R = (Tr.split (cmpS key) t).2 from Hv.out.trans (by simp)]; exact z.2.2.2.2.2.2.2.2.2.2.2.2.setRow z.2.2.1 _, setRow_below z.1 (by omega) _⟩
    go_wp2_with (refine wpList_store_row rfl 27 (.tmp 4) (.tmp 50) rfl (w.heap.size + 1) #[.pointer q1] rfl rfl 27 #[.pointer none] (HX.out _ _).1 sizeTree rfl (one_ptr _) ?_)
    (try simp only [Exit.inBlock, Exit.then])
    refine bodyPost_ret (results_cell_row rfl _ _ (w.heap.size + 1) 27 #[.pointer q1] (0, 0) _ rfl (setRow_heap _ _ _ _ _ _ (HX.out _ _).1) Try.underlying27 rfl sizeTree) rfl ?_
    exact ⟨q1, rfl, (HX.out _ _).2.1, (HX.out _ _).2.2⟩
  · go_wp2_with fail
    generalize hw2 : World.alloc (World.alloc _ _) _ = w2
    have hb2 : Below w1.heap.size w1 w2 := by subst hw2; exact HB.out _ _
    clear hw2
    obtain ⟨-, -, -, -, d2, -, -, d5, d6, -⟩ := HR.out w2 hb2
    have hl0' : w.heap.size < w2.heap.size := by have := hb2.size; omega
    have hl2' : w.heap.size + 1 + 1 < w2.heap.size := by have := hb2.size; omega
    have hbb2 : b < w2.heap.size := by have := hb2.size; omega
    have hym : ((ot : Int) % (n : Int)) = (iy : Int) := Hym.out
    have Hb2 := Lib.hid hb2
    have HJ : Hid (∀ wx, Below w2.heap.size w2 wx → Calls Try.prog 25 #[.agg #[.pointer p], .agg #[.pointer q]] wx fun e w' => ∃ r, e = .returned (.tuple #[.agg #[.pointer r], .bool (joinT t u).2]) ∧ Hid (Is Value.string 98 w' r (joinT t u).1) ∧ Below w2.heap.size w2 w') := fun wx h => by
      have h' : Below w1.heap.size w1 wx := hb2.trans (h.mono hb2.size)
      refine (joinT_any p q t u wx (HR.out wx h').2.2.2.2.2.2.2.2.2.1 (HR.out wx h').2.2.2.2.2.2.2.2.2.2.1 (by omega)).mono ?_
      rintro e w' ⟨r, h1, h2, h3⟩
      exact ⟨r, h1, h2, h.trans (h3.mono h.size)⟩
    have HJb : Hid (∀ o, Calls Try.prog 25 #[.agg #[.pointer p], .agg #[.pointer q]] ((w2.alloc o).drew) fun e w' => ∃ r, e = .returned (.tuple #[.agg #[.pointer r], .bool (joinT t u).2]) ∧ Hid (Is Value.string 98 w' r (joinT t u).1) ∧ Below w2.heap.size w2 w' ∧ Hid (w'.heap[w2.heap.size]? = some o)) := fun o => by
      have h : Below w2.heap.size w2 ((w2.alloc o).drew) := ((Below.refl _ _).alloc (Nat.le_refl _) o).drew
      have h' : Below w1.heap.size w1 ((w2.alloc o).drew) := hb2.trans (h.mono hb2.size)
      refine (joinT_any p q t u _ (HR.out _ h').2.2.2.2.2.2.2.2.2.1 (HR.out _ h').2.2.2.2.2.2.2.2.2.2.1 (by omega)).mono ?_
      rintro e w' ⟨r, h1, h2, h3⟩
      refine ⟨r, h1, h2, h.trans (h3.mono h.size), (h3.block w2.heap.size ?_).trans (heap_alloc_new w2 o)⟩
      show w2.heap.size < (w2.alloc o).heap.size
      simp
    have hv : R = (joinT t u).1 := Hv.out.trans (by simp)
    have HV := Lib.hid hv
    clear hv hb2
    generalize joinT t u = J at HJ HJb HV
    obtain ⟨J1, J2⟩ := J
    simp only at HJ HJb HV
    have HX : Hid (∀ wx r, Below w2.heap.size w2 wx → Is Value.string 98 wx r J1 → wx.heap[w.heap.size + 1]? = some (.cells #[.pointer none] 27 (0, 0)) ∧ Is Value.string 98 (wx.setRow (w.heap.size + 1) #[.pointer r]) r R ∧ Below w.heap.size w (wx.setRow (w.heap.size + 1) #[.pointer r])) := fun wx r h hI => by
      have z := HR.out _ (Hb2.out.trans (h.mono Hb2.out.size))
      exact ⟨z.2.2.1, by rw [HV.out]; exact hI.setRow z.2.2.1 _, setRow_below z.1 (by omega) _⟩
    have HXa : Hid (∀ wx o r, Below w2.heap.size w2 wx → Hid (Is Value.string 98 wx r J1) → (wx.alloc o).heap[w.heap.size + 1]? = some (.cells #[.pointer none] 27 (0, 0)) ∧ Is Value.string 98 ((wx.alloc o).setRow (w.heap.size + 1) #[.pointer r]) r R ∧ Below w.heap.size w ((wx.alloc o).setRow (w.heap.size + 1) #[.pointer r])) := fun wx o r h hI =>
      HX.out (wx.alloc o) r (h.alloc h.size o) (hI.out.below ((Below.refl _ _).alloc (Nat.le_refl _) o))
    have HXb : Hid (∀ wx r, Below w2.heap.size w2 wx → Hid (Is Value.string 98 wx r J1) → Hid (wx.heap[w2.heap.size]? = some (.cells #[.pointer none] 27 (0, 0))) → (wx.setCell ⟨w2.heap.size, 0, none⟩ (.pointer r)).heap[w.heap.size + 1]? = some (.cells #[.pointer none] 27 (0, 0)) ∧ Is Value.string 98 ((wx.setCell ⟨w2.heap.size, 0, none⟩ (.pointer r)).setRow (w.heap.size + 1) #[.pointer r]) r R ∧ Below w.heap.size w ((wx.setCell ⟨w2.heap.size, 0, none⟩ (.pointer r)).setRow (w.heap.size + 1) #[.pointer r])) := fun wx r h hI hrow =>
      HX.out (wx.setCell ⟨w2.heap.size, 0, none⟩ (.pointer r)) r (h.setCell (Nat.le_refl _) _) (by
        refine (IsT.held hI.out fun b2 cs fr hlt hc => Below.heap_setCell _ _ _ _ ?_).more (by simp)
        rintro rfl
        rw [hrow.out] at hc
        simp at hc)
    have HJ2 : Hid (∀ o, Calls Try.prog 25 #[.agg #[.pointer p], .agg #[.pointer q]] ((w2.alloc o).drew) fun e w' => ∃ r, e = .returned (.tuple #[.agg #[.pointer r], .bool J2]) ∧ Hid (Is Value.string 98 w' r J1) ∧ Below w2.heap.size w2 w' ∧ Hid (w'.heap[w2.heap.size]? = some o)) := fun o => HJb.out o
    go_region_with (first
      | (go_at_call 25; (with_reducible refine (HJ.out _ (Below.refl _ _).drew).mono ?_); rintro e w3 ⟨r, rfl, hI, hb3⟩)
      | (go_at_call 25; (with_reducible refine (HJ2.out _).mono ?_); rintro e w3 ⟨r, rfl, hI, hb3, hz3⟩; have cz : w3.cell? ⟨w2.heap.size, 0, none⟩ = some (.pointer none) := (cell_of_row _ _ 0 _ _ _ hz3.out).trans rfl; have fz : w3.frozen? ⟨w2.heap.size, 0, none⟩ = false := frozen_of_row _ _ _ _ _ hz3.out))
    all_goals first
      | (go_wp2_with (refine wpList_store_row rfl 27 (.tmp 4) (.tmp 67) rfl (w.heap.size + 1) #[.pointer r] rfl rfl 27 #[.pointer none] (HXa.out _ _ _ hb3 hI).1 sizeTree rfl (one_ptr _) ?_)
         (try simp only [Exit.inBlock, Exit.then])
         refine bodyPost_ret (results_cell_row rfl _ _ (w.heap.size + 1) 27 #[.pointer r] (0, 0) _ rfl (setRow_heap _ _ _ _ _ _ (HXa.out _ _ _ hb3 hI).1) Try.underlying27 rfl sizeTree) rfl ?_
         exact ⟨r, rfl, (HXa.out _ _ _ hb3 hI).2.1, (HXa.out _ _ _ hb3 hI).2.2⟩)
      | (go_wp2_with (refine wpList_store_row rfl 27 (.tmp 4) (.tmp 67) rfl (w.heap.size + 1) #[.pointer r] rfl rfl 27 #[.pointer none] (HXb.out _ _ hb3 hI hz3).1 sizeTree rfl (one_ptr _) ?_)
         (try simp only [Exit.inBlock, Exit.then])
         refine bodyPost_ret (results_cell_row rfl _ _ (w.heap.size + 1) 27 #[.pointer r] (0, 0) _ rfl (setRow_heap _ _ _ _ _ _ (HXb.out _ _ hb3 hI hz3).1) Try.underlying27 rfl sizeTree) rfl ?_
         exact ⟨r, rfl, (HXb.out _ _ hb3 hI hz3).2.1, (HXb.out _ _ hb3 hI hz3).2.2⟩)
  · have HX : Hid (∀ o1 o2, ((w1.alloc o1).alloc o2).heap[w.heap.size + 1]? = some (.cells #[.pointer none] 27 (0, 0)) ∧ Is Value.string 98 (((w1.alloc o1).alloc o2).setRow (w.heap.size + 1) #[.pointer p]) p R ∧ Below w.heap.size w (((w1.alloc o1).alloc o2).setRow (w.heap.size + 1) #[.pointer p])) := fun o1 o2 =>
      have z := HR.out _ (HB.out o1 o2)
      ⟨z.2.2.1, by rw [show R = t from Hv.out.trans (by simp)]; exact z.2.2.2.2.2.2.2.2.2.1.setRow z.2.2.1 _, setRow_below z.1 (by omega) _⟩
    go_wp2_with (refine wpList_store_row rfl 27 (.tmp 4) (.tmp 68) rfl (w.heap.size + 1) #[.pointer p] rfl rfl 27 #[.pointer none] (HX.out _ _).1 sizeTree rfl (one_ptr _) ?_)
    (try simp only [Exit.inBlock, Exit.then])
    refine bodyPost_ret (results_cell_row rfl _ _ (w.heap.size + 1) 27 #[.pointer p] (0, 0) _ rfl (setRow_heap _ _ _ _ _ _ (HX.out _ _).1) Try.underlying27 rfl sizeTree) rfl ?_
    exact ⟨p, rfl, (HX.out _ _).2.1, (HX.out _ _).2.2⟩
end Go.Proofs.Ytdffgkhlkbaecaa.Tok
