/- Whether a label is that of a mandatory hypothesis: the program's test. -/
import Derived.Test.YtbccmookfpcbgaaIndex
import Derived.Test.YtbccmookfpcbgaaBoolIs
namespace Go.Proofs.Ytbccmookfpcbgaa.Tok
open Go.RowKit Go.Proofs.Ytbccmookfpcbgaa

/-- A hypothesis: its label, whether it floats, its formula; its three cells. -/
abbrev HypT := ByteArray × Bool × Option Addr × Nat × Nat
def hypV (h : HypT) : List Value := [.string h.1, .bool h.2.1, .slice h.2.2.1 h.2.2.2.1 h.2.2.2.2]
theorem flat3' {α : Type} (f : α → List Value) (hf : ∀ x, (f x).length = 3) : ∀ (l : List α) (k i : Nat) (h : k < l.length), i < 3 → (l.flatMap f)[k * 3 + i]? = (f l[k])[i]?
  | [], _, _, h, _ => by simp at h
  | x :: l, 0, i, _, hi => by
    rw [List.flatMap_cons, List.getElem?_append_left (by rw [hf]; omega)]
    simp
  | x :: l, k + 1, i, h, hi => by
    have hx := hf x
    rw [List.flatMap_cons, List.getElem?_append_right (by omega), hx, show (k + 1) * 3 + i - 3 = k * 3 + i by omega, flat3' f hf l k i (by simpa using h) hi]
    simp
theorem flat3_len' {α : Type} (f : α → List Value) (hf : ∀ x, (f x).length = 3) (l : List α) : (l.flatMap f).length = l.length * 3 := by
  induction l with
  | nil => rfl
  | cons x l ih => rw [List.flatMap_cons, List.length_append, hf, ih, List.length_cons]; omega

open Classical in
set_option maxHeartbeats 800000 in
theorem scontains_any (A : Option Addr) (n c : Nat) (ss : List ByteArray) (x : ByteArray) (w : World) (hn : n ≤ 1000000) (hr : Rd w w.heap.size 1 A n (ss.map Value.string)) :
    Calls Try.prog 48 #[.slice A n c, .string x] w fun e w' => e = .returned (.bool (decide (x ∈ ss))) ∧ w = w' := by
  have hlen : ss.length = n := by have := hr.len; simp at this; omega
  have HC := Lib.hid (sindex_any A n c ss x w hn hr)
  have Hlen := Lib.hid hlen
  clear hr hlen
  by_cases h : x ∈ ss
  · have Hd := Lib.hid (decide_eq_true h)
    have H := Lib.hid h
    clear h
    go_enter Try.func48, Try.ntmps48
    go_wp2_with fail
    refine (HC.out).mono ?_
    rintro e w' ⟨h1, rfl⟩
    rcases h1 with ⟨k, rfl, hk⟩ | ⟨rfl, hno⟩
    · clear hk
      go_wp2
      go_ret
      exact ⟨retb Hd.out.symm, rfl⟩
    · exact absurd H.out hno
  · have Hd := Lib.hid (decide_eq_false h)
    have H := Lib.hid h
    clear h
    go_enter Try.func48, Try.ntmps48
    go_wp2_with fail
    refine (HC.out).mono ?_
    rintro e w' ⟨h1, rfl⟩
    rcases h1 with ⟨k, rfl, hk⟩ | ⟨rfl, hno⟩
    · exact absurd hk.mem H.out
    · clear hno
      go_wp2
      go_ret
      exact ⟨retb Hd.out.symm, rfl⟩

open Classical in
set_option maxHeartbeats 800000 in
theorem mand1_any (lab : ByteArray) (fl : Bool) (T : Option Addr) (tn tc q : Nat) (A : Option Addr) (n c : Nat) (ss : List ByteArray) (w : World) (hn : n ≤ 1000000) (hq : w.cell? ⟨q, 0, none⟩ = some (.slice A n c))
    (hr : Rd w w.heap.size 1 A n (ss.map Value.string)) :
    Calls Try.prog 47 #[.agg #[.string lab, .bool fl, .slice T tn tc], .pointer (some ⟨q, 0, none⟩)] w fun e w' => e = .returned (.bool (decide (lab ∈ ss))) ∧ Below w.heap.size w w' := by
  have hql := block_lt_of_cell hq
  have HC : Hid (∀ o : Obj, Calls Try.prog 48 #[.slice A n c, .string lab] (w.alloc o) fun e w' => e = .returned (.bool (decide (lab ∈ ss))) ∧ w.alloc o = w') := fun o =>
    scontains_any A n c ss lab (w.alloc o) hn ((hr.alloc (Nat.le_refl _) o).more (by simp))
  clear hr
  obtain ⟨b, hb⟩ : ∃ b, b = decide (lab ∈ ss) := ⟨_, rfl⟩
  rw [← hb] at HC ⊢
  clear hb
  go_enter Try.func47, Try.ntmps47
  go_wp2_with (go_at_call 48; refine (HC.out _).mono ?_; rintro e w' ⟨rfl, rfl⟩)
  go_ret
  exact ⟨rfl, (Below.refl _ _).alloc (Nat.le_refl _) _⟩

def FoundAt (hs : List HypT) (ss : List ByteArray) (e : Ending) : Prop := (∃ k : Nat, e = .returned (.int .i64 k) ∧ ∃ h ∈ hs, h.1 ∈ ss) ∨ (e = .returned (.int .i64 (-1)) ∧ ∀ h ∈ hs, h.1 ∉ ss)

set_option maxHeartbeats 1600000 in
set_option maxRecDepth 8000 in
theorem indexF_any (H A : Option Addr) (m hc q n c : Nat) (hs : List HypT) (ss : List ByteArray) (w : World) (hm : m ≤ 1000000) (hn : n ≤ 1000000) (hq : w.cell? ⟨q, 0, none⟩ = some (.slice A n c))
    (hh : Rd w w.heap.size 3 H m (hs.flatMap hypV)) (hr : Rd w w.heap.size 1 A n (ss.map Value.string)) :
    Calls Try.prog 55 #[.slice H m hc, .func (.func 47) #[] #[.pointer (some ⟨q, 0, none⟩)]] w fun e w' => FoundAt hs ss e ∧ Below w.heap.size w w' := by
  have hlen : hs.length = m := by have := hh.len; rw [flat3_len' hypV (fun _ => rfl)] at this; omega
  have hql := block_lt_of_cell hq
  have Hlen := Lib.hid hlen
  have Hh := Lib.hid hh
  have Hq := Lib.hid hq
  have HC : Hid (∀ (wr : World) (lab : ByteArray) (fl : Bool) (T : Option Addr) (tn tc : Nat), Below w.heap.size w wr → Calls Try.prog 47 #[.agg #[.string lab, .bool fl, .slice T tn tc], .pointer (some ⟨q, 0, none⟩)] wr fun e w' => e = .returned (.bool (@decide (lab ∈ ss) (Classical.propDecidable _))) ∧ Below wr.heap.size wr w') :=
    fun wr lab fl T tn tc hb => mand1_any lab fl T tn tc q A n c ss wr hn ((hb.cell (p := ⟨q, 0, none⟩) hql).trans hq) ((hr.below hb).more hb.size)
  clear hlen hh hr hq
  go_enter Try.func55, Try.ntmps55
  go_wp2
  go_loopw [8] (fun i wr => ∃ k : Nat, k ≤ m ∧ i = .int .i64 k ∧ Hid (∀ h ∈ hs.take k, h.1 ∉ ss) ∧ Below w.heap.size w wr) (fun i _ => m - (intOf i).toNat)
  case atStart => exact ⟨0, Nat.zero_le _, rfl, by show ∀ h ∈ _, _; simp, Below.refl _ _⟩
  case round =>
    obtain ⟨k, hk, rfl, hno, hb⟩ := hrel
    by_cases hlt : k < m
    · obtain ⟨b, off, rfl, hbb, hcc⟩ := Hh.out.pos (by omega)
      have hk1 : k < hs.length := by have := Hlen.out; omega
      have hcell0 := (hb.cell (p := ⟨b, off + k * 3, none⟩) hbb).trans (hcc (k * 3) _ ((flat3' hypV (fun _ => rfl) hs k 0 hk1 (by omega)).trans rfl))
      have hcell1 := (hb.cell (p := ⟨b, off + (k * 3 + 1), none⟩) hbb).trans (hcc (k * 3 + 1) _ ((flat3' hypV (fun _ => rfl) hs k 1 hk1 (by omega)).trans rfl))
      have hcell2 := (hb.cell (p := ⟨b, off + (k * 3 + 2), none⟩) hbb).trans (hcc (k * 3 + 2) _ ((flat3' hypV (fun _ => rfl) hs k 2 hk1 (by omega)).trans rfl))
      rw [← Nat.add_assoc] at hcell1 hcell2
      have Hin := Lib.hid (List.getElem_mem hk1)
      have Hnx := Lib.hid (show hs.take (k + 1) = hs.take k ++ [hs[k]] from List.take_succ_eq_append_getElem hk1)
      obtain ⟨x, hx⟩ : ∃ x, x = hs[k] := ⟨_, rfl⟩
      rw [← hx] at hcell0 hcell1 hcell2 Hin Hnx
      clear hx hcc
      obtain ⟨lab, fl, T, tn, tc⟩ := x
      simp only at hcell0 hcell1 hcell2
      by_cases hin : lab ∈ ss
      · have Hd := Lib.hid (@decide_eq_true _ (Classical.propDecidable _) hin)
        have HI := Lib.hid hin
        clear hin
        go_wp2_with (go_at_call 47; refine (HC.out _ lab fl T tn tc hb).mono ?_; rintro e w' ⟨rfl, hb2⟩; rw [Hd.out])
        go_ret
        exact ⟨.inl ⟨k, rfl, _, Hin.out, HI.out⟩, hb.trans (hb2.mono hb.size)⟩
      · have Hd := Lib.hid (@decide_eq_false _ (Classical.propDecidable _) hin)
        have Hn2 := Lib.hid (show ∀ h ∈ hs.take (k + 1), h.1 ∉ ss by rw [Hnx.out]; intro h h1; rcases List.mem_append.1 h1 with h1 | h1; exact hno.out h h1; simp at h1; subst h1; exact hin)
        clear hin
        go_wp2_with (go_at_call 47; refine (HC.out _ lab fl T tn tc hb).mono ?_; rintro e w' ⟨rfl, hb2⟩; rw [Hd.out])
        go_light
        exact ⟨⟨k + 1, by omega, by go_num, Hn2.out, hb.trans (hb2.mono hb.size)⟩, by simp [intOf]; omega⟩
    · obtain rfl : k = m := by omega
      have Hno := Lib.hid (show ∀ h ∈ hs, h.1 ∉ ss by have := hno.out; rw [List.take_of_length_le (by have := Hlen.out; omega)] at this; exact this)
      go_wp2
      go_ret
      exact ⟨.inr ⟨rfl, Hno.out⟩, hb⟩

def Mand (hs : List HypT) (ss : List ByteArray) : Prop := ∃ h ∈ hs, h.1 ∈ ss
set_option maxHeartbeats 800000 in
theorem containsF_any (H A : Option Addr) (m hc q n c : Nat) (hs : List HypT) (ss : List ByteArray) (w : World) (hm : m ≤ 1000000) (hn : n ≤ 1000000) (hq : w.cell? ⟨q, 0, none⟩ = some (.slice A n c))
    (hh : Rd w w.heap.size 3 H m (hs.flatMap hypV)) (hr : Rd w w.heap.size 1 A n (ss.map Value.string)) :
    Calls Try.prog 46 #[.slice H m hc, .func (.func 47) #[] #[.pointer (some ⟨q, 0, none⟩)]] w fun e w' => BoolIs e (Mand hs ss) ∧ Below w.heap.size w w' := by
  have HC := Lib.hid (indexF_any H A m hc q n c hs ss w hm hn hq hh hr)
  clear hh hr hq
  go_enter Try.func46, Try.ntmps46
  go_wp2_with fail
  refine (HC.out).mono ?_
  rintro e w' ⟨h1, hb⟩
  rcases h1 with ⟨k, rfl, hk⟩ | ⟨rfl, hno⟩
  · have Hk := Lib.hid hk
    clear hk
    go_wp2
    go_ret
    exact ⟨BoolIs.yes Hk.out, hb⟩
  · have Hno := Lib.hid (show ¬ Mand hs ss from fun ⟨h, h1, h2⟩ => hno h h1 h2)
    clear hno
    go_wp2
    go_ret
    exact ⟨BoolIs.no Hno.out, hb⟩

set_option maxHeartbeats 1600000 in
set_option maxRecDepth 8000 in
theorem hasMand_any (x0 : ByteArray) (x1 : Bool) (H A3 A4 A5 A6 A7 : Option Addr) (m hc n3 c3 n4 c4 n5 c5 n6 c6 n7 c7 : Nat) (A : Option Addr) (n c : Nat) (hs : List HypT) (ss : List ByteArray) (w : World) (hm : m ≤ 1000000) (hn : n ≤ 1000000)
    (hh : Rd w w.heap.size 3 H m (hs.flatMap hypV)) (hr : Rd w w.heap.size 1 A n (ss.map Value.string)) :
    Calls Try.prog 36 #[.agg #[.string x0, .bool x1, .slice H m hc, .slice A3 n3 c3, .slice A4 n4 c4, .slice A5 n5 c5, .slice A6 n6 c6, .slice A7 n7 c7], .slice A n c] w fun e w' => BoolIs e (Mand hs ss) ∧ Below w.heap.size w w' := by
  have HC : Hid (∀ o o' : Obj, (((w.alloc o).alloc o').cell? ⟨w.heap.size + 1, 0, none⟩ = some (.slice A n c)) → Calls Try.prog 46 #[.slice H m hc, .func (.func 47) #[] #[.pointer (some ⟨w.heap.size + 1, 0, none⟩)]] ((w.alloc o).alloc o') fun e w' => BoolIs e (Mand hs ss) ∧ Below ((w.alloc o).alloc o').heap.size ((w.alloc o).alloc o') w') := fun o o' h =>
    containsF_any H A m hc (w.heap.size + 1) n c hs ss ((w.alloc o).alloc o') hm hn h (((hh.alloc (Nat.le_refl _) o).alloc (by simp) o').more (by simp; omega)) (((hr.alloc (Nat.le_refl _) o).alloc (by simp) o').more (by simp; omega))
  clear hh hr
  go_enter Try.func36, Try.ntmps36
  go_wp2_with fail
  refine (HC.out _ _ (by go_simp)).mono ?_
  rintro e w' ⟨⟨b, rfl, hbt⟩, hb⟩
  have Hbt := Lib.hid hbt
  clear hbt
  go_wp2
  go_ret
  exact ⟨⟨b, rfl, Hbt.out⟩, (((Below.refl _ _).alloc (Nat.le_refl _) _).alloc (by simp) _).trans (hb.mono (by simp; omega))⟩
end Go.Proofs.Ytbccmookfpcbgaa.Tok
