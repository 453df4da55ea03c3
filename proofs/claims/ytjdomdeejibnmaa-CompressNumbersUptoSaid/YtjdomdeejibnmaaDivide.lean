/- The program's division of a compressed proof's words. -/
import Derived.Test.YtjdomdeejibnmaaLabels
import Derived.Test.YtjdomdeejibnmaaIndex
import Derived.Test.YtjdomdeejibnmaaJoin
import Derived.Test.YtjdomdeejibnmaaGaps
import Derived.Deep.RegionHeld3
import Derived.IntWalk
namespace Go.Proofs.Ytjdomdeejibnmaa.Tok
open Go.RowKit Go.Proofs.Ytjdomdeejibnmaa

theorem Rd.sub {w : World} {B b off n : Nat} {xs : List Value} (h : Rd w B 1 (some ⟨b, off, none⟩) n xs) (hb : b < B) (i m : Nat) (him : i + m ≤ n) : Rd w B 1 (some ⟨b, off + i, none⟩) m ((xs.drop i).take m) := by
  have hl := h.len
  refine ⟨by simp; omega, fun hm => ⟨b, off + i, rfl, hb, fun j u hu => ?_⟩⟩
  obtain ⟨b', off', he, _, hc⟩ := h.pos (by omega)
  injection he with he
  injection he with h1 h2
  subst h1 h2
  have hj : j < m := by have := (List.getElem?_eq_some_iff.1 hu).1; simp at this; omega
  have := hc (i + j) u (by rw [← hu, List.getElem?_take_of_lt hj, List.getElem?_drop])
  rwa [← Nat.add_assoc] at this
theorem sclone_any (A : Option Addr) (n c : Nat) (ss : List ByteArray) (w : World) (hn : n ≤ 1000000) (hr : Rd w w.heap.size 1 A n (ss.map Value.string)) :
    Calls Try.prog 35 #[.slice A n c] w fun e w' => ∃ v, e = .returned v ∧ w'.ownsRow w.heap.size 9 1 v n (ss.map Value.string) ∧ Below w.heap.size w w' := by
  have hlen : ss.length = n := by have := hr.len; simp at this; omega
  rcases Nat.eq_zero_or_pos n with rfl | hpos
  · obtain rfl : ss = [] := List.eq_nil_of_length_eq_zero hlen
    cases A with
    | none =>
      refine (Try.slices_Clone_string_nil 0 c w).mono ?_
      rintro e w' ⟨rfl, rfl⟩
      exact ⟨_, rfl, World.ownsRow_nil _ _ _ _, Below.refl _ _⟩
    | some a =>
      refine (Try.slices_Clone_string_zero a c w).mono ?_
      rintro e w' ⟨v, rfl, own, _, hb⟩
      exact ⟨v, rfl, own, hb⟩
  · obtain ⟨b, off, rfl, hb, hc⟩ := hr.pos hpos
    refine (Try.slices_Clone_string b off n c ss w (by omega) (by omega) (fun j hj => ?_)).mono ?_
    · rw [hc j (.string ss[j]) (by simp [hj])]
      simp [hj]
    · rintro e w' ⟨v, rfl, own, _, hb'⟩
      rw [List.take_of_length_le (by omega)] at own
      exact ⟨v, rfl, own, hb'⟩

theorem own_base8 {w : World} {b b' e z n : Nat} {v : Value} {xs : List Value} (h : w.ownsRow b e z v n xs) (hb : b' ≤ b) : w.ownsRow b' e z v n xs :=
  ⟨h.1, h.2.imp id fun ⟨g, cap, cur, h1, h2, h3⟩ => ⟨g, cap, cur, h1, Nat.le_trans hb h2, h3⟩⟩
def closeB : ByteArray := ⟨#[41]⟩
/-- The labels and the letters of a compressed proof, or that its list is not right. -/
def DivIs (ss : List ByteArray) : Option (List ByteArray × List UInt8) → Prop
  | none => isB ss = false ∨ closeB ∉ ss ∨ ∃ k, 1 ≤ k ∧ FirstAt ss closeB k ∧ ¬ LabsOk ((ss.drop 1).take (k - 1))
  | some (ls, bs) => isB ss = true ∧ ∃ k, 1 ≤ k ∧ FirstAt ss closeB k ∧ LabsOk ((ss.drop 1).take (k - 1)) ∧ ls = (ss.drop 1).take (k - 1) ∧ bs = ((ss.drop (k + 1)).map (·.data.toList)).flatten
def DivGood (ss : List ByteArray) (w : World) (e : Ending) (w' : World) : Prop :=
  ((DivIs ss none ∧ e = .returned (.tuple #[.slice none 0 0, .string ⟨#[]⟩, .int .i64 20])) ∨
    ∃ ls bs v, DivIs ss (some (ls, bs)) ∧ e = .returned (.tuple #[v, .string ⟨bs.toArray⟩, .int .i64 0]) ∧ w'.ownsRow w.heap.size 9 1 v ls.length (ls.map Value.string)) ∧ Below w.heap.size w w'

set_option maxHeartbeats 800000 in
set_option maxRecDepth 8000 in
theorem divide_any (A : Option Addr) (n c : Nat) (ss : List ByteArray) (w : World) (hn : n ≤ 1000000) (hnc : n ≤ c) (hz : sumSz ss ≤ 1048576) (hr : Rd w w.heap.size 1 A n (ss.map Value.string)) :
    Calls Try.prog 22 #[.slice A n c] w (DivGood ss w) := by
  have hlen : ss.length = n := by have := hr.len; simp at this; omega
  have Hlen := Lib.hid hlen
  have Hr := Lib.hid hr
  have Hz := Lib.hid hz
  clear hlen hr hz
  go_enter Try.func22, Try.ntmps22
  go_wp2_with fail
  refine (sindex_any A n c ss closeB w hn Hr.out).mono ?_
  rintro e w1 ⟨hi, rfl⟩
  rcases hi with ⟨k, rfl, hf⟩ | ⟨rfl, hno⟩
  · cases hb : isB ss
    · have Hd := Lib.hid (show DivIs ss none from .inl hb)
      have Hb := Lib.hid hb
      clear hb
      go_wp2_with (go_at_call 12; refine (is_any A n c ss _ hn Hr.out).mono ?_; rintro e w' ⟨rfl, rfl⟩; rw [Hb.out])
      go_ret3
      exact ⟨.inl ⟨Hd.out, rfl⟩, Below.refl _ _⟩
    · have Hb := Lib.hid hb
      have hk0 : 1 ≤ k := by
        rcases Nat.eq_zero_or_pos k with rfl | h
        · obtain ⟨h0, h1, _⟩ := hf
          exfalso
          cases ss with
          | nil => simp at h0
          | cons s r =>
            have h2 : (s.toList == [40]) = true := hb
            have h3 : s = closeB := h1
            subst h3
            revert h2
            decide +kernel
        · exact h
      clear hb
      have Hf := Lib.hid hf
      have hk : k < ss.length := by obtain ⟨h0, _, _⟩ := hf; exact h0
      have hkn : k < n := by have := Hlen.out; omega
      clear hf
      obtain ⟨b, off, rfl, hbb, hcc⟩ := Hr.out.pos (by omega)
      clear hcc
      have R1 : Hid (Rd w w.heap.size 1 (some ⟨b, off + 1, none⟩) (k - 1) (((ss.drop 1).take (k - 1)).map Value.string)) := by
        have := Hr.out.sub hbb 1 (k - 1) (by omega)
        rwa [← List.map_drop, ← List.map_take] at this
      have R2 : Hid (Rd w w.heap.size 1 (some ⟨b, off + (k + 1), none⟩) (n - (k + 1)) ((ss.drop (k + 1)).map Value.string)) := by
        have := Hr.out.sub hbb (k + 1) (n - (k + 1)) (by omega)
        rwa [← List.map_drop, ← List.map_take, List.take_of_length_le (by have := Hlen.out; simp; omega)] at this
      have Hs1 : Hid (∀ s ∈ (ss.drop 1).take (k - 1), s.size ≤ 9223372036854775807) := fun s hs => by
        have := sum_mem (List.drop_subset _ _ (List.take_subset _ _ hs))
        have := Hz.out
        omega
      have Hs2 : Hid (sumSz (ss.drop (k + 1)) ≤ 140737488355328) := by
        have h1 := Hz.out
        have h2 : sumSz ss = sumSz (ss.take (k + 1)) + sumSz (ss.drop (k + 1)) := by
          unfold sumSz
          rw [← List.sum_append, ← List.map_append, List.take_append_drop]
        show _ ≤ _
        omega
      have Hl2 : Hid ((ss.drop (k + 1)).length = n - (k + 1)) := by have := Hlen.out; show _ = _; simp; omega
      have HC0 := Lib.hid (areLabels_any (some ⟨b, off + 1, none⟩) (k - 1) (c - 1) ((ss.drop 1).take (k - 1)) w (by omega) Hs1.out R1.out)
      have HCI := Lib.hid (is_any (some ⟨b, off, none⟩) n c ss w hn Hr.out)
      by_cases hok : LabsOk ((ss.drop 1).take (k - 1))
      · have Hd := Lib.hid (show DivIs ss (some ((ss.drop 1).take (k - 1), ((ss.drop (k + 1)).map (·.data.toList)).flatten)) from ⟨Hb.out, k, hk0, Hf.out, hok, rfl, rfl⟩)
        have Hll : Hid (((ss.drop 1).take (k - 1)).length = k - 1) := by show _ = _; simp; omega
        have Hok := Lib.hid hok
        clear hok
        go_wp2_with (go_at_call 12; refine HCI.out.mono ?_; rintro e w' ⟨rfl, rfl⟩; rw [Hb.out])
        refine HC0.out.mono ?_
        rintro e w2 ⟨hbo, hb2⟩
        obtain rfl := hbo.of Hok.out
        go_wp2
        have b2 : Below w.heap.size w w2.drew := hb2.drew
        have HC1 := Lib.hid (sclone_any (some ⟨b, off + 1, none⟩) (k - 1) (c - 1) ((ss.drop 1).take (k - 1)) w2.drew (by omega) ((R1.out.below b2).more b2.size))
        obtain ⟨JB, hJB⟩ : ∃ JB, JB = ((ss.drop (k + 1)).map (·.data.toList)).flatten := ⟨_, rfl⟩
        rw [← hJB] at Hd
        have HJB := Lib.hid hJB
        clear hJB
        by_cases hck : c = k + 1
        · obtain rfl : n = k + 1 := by omega
          obtain rfl : c = k + 1 := hck
          have hdr : ss.drop (k + 1) = [] := List.drop_eq_nil_of_le (by have := Hlen.out; omega)
          have HC2 : Hid (∀ w3, Below w.heap.size w w3 → Calls Try.prog 5 #[.slice (some ⟨b, off, none⟩) 0 0, .string ⟨#[]⟩] w3 fun e w' => e = .returned (.string ⟨JB.toArray⟩) ∧ Below w3.heap.size w3 w') := fun w3 b3 => by
            rw [HJB.out]
            exact join2_any (some ⟨b, off, none⟩) 0 0 (ss.drop (k + 1)) w3 (by rw [hdr]; rfl) (by omega) (by omega) Hs2.out (by rw [hdr]; exact Rd.nil _ _ _ _)
          have HC1' : Hid (Calls Try.prog 35 #[.slice (some ⟨b, off + 1, none⟩) (k - 1) k] w2.drew fun e w' => ∃ v, e = .returned v ∧ w'.ownsRow w2.drew.heap.size 9 1 v (k - 1) (((ss.drop 1).take (k - 1)).map Value.string) ∧ Below w2.drew.heap.size w2.drew w') :=
            sclone_any (some ⟨b, off + 1, none⟩) (k - 1) k ((ss.drop 1).take (k - 1)) w2.drew (by omega) ((R1.out.below b2).more b2.size)
          have hs1 : (1 : Int) ≤ (k : Int) := by omega
          have hs2 : (k : Int) ≤ (k : Int) + 1 := by omega
          have hw2 : 0 ≤ (k : Int) + 1 := by omega
          have hw3 : ((k : Int) + 1).toNat = k + 1 := by omega
          have hw1 : IntKind.i64.wrap ((k : Int) + 1) = (k : Int) + 1 := IntWalk.i64_in _ (by omega)
          clear hdr HC1
          go_region_with (first
            | (go_at_call 35; refine HC1'.out.mono ?_; rintro e w3 ⟨v3, rfl, own3, hb3⟩; have b3 := b2.trans (hb3.mono b2.size))
            | (go_at_call 5; refine (HC2.out w3 b3).mono ?_; rintro e w4 ⟨rfl, hb4⟩))
          all_goals
            go_wp2
            go_ret3
            refine ⟨.inr ⟨_, _, v3, Hd.out, rfl, ?_⟩, b3.trans (hb4.mono b3.size)⟩
            rw [Hll.out]
            exact own_base8 (own_below own3 hb4) b2.size
        · have HC2 : Hid (∀ w3, Below w.heap.size w w3 → Calls Try.prog 5 #[.slice (some ⟨b, off + (k + 1), none⟩) (n - (k + 1)) (c - (k + 1)), .string ⟨#[]⟩] w3 fun e w' => e = .returned (.string ⟨JB.toArray⟩) ∧ Below w3.heap.size w3 w') := fun w3 b3 => by
            rw [HJB.out]
            exact join2_any (some ⟨b, off + (k + 1), none⟩) (n - (k + 1)) (c - (k + 1)) (ss.drop (k + 1)) w3 Hl2.out (by omega) (by omega) Hs2.out ((R2.out.below b3).more b3.size)
          have hs1 : k + 1 ≤ n := by omega
          have hs2 : k + 1 ≤ c := by omega
          have hs3 : (k : Int) + 1 ≤ n := by omega
          have hs4 : (k : Int) + 1 ≤ c := by omega
          have hs5 : (n : Int) ≤ c := by omega
          have hw2 : 0 ≤ (k : Int) + 1 := by omega
          have hw3 : ((k : Int) + 1).toNat = k + 1 := by omega
          have hw1 : IntKind.i64.wrap ((k : Int) + 1) = (k : Int) + 1 := IntWalk.i64_in _ (by omega)
          go_region_with (first
            | (go_at_call 35; refine HC1.out.mono ?_; rintro e w3 ⟨v3, rfl, own3, hb3⟩; have b3 := b2.trans (hb3.mono b2.size))
            | (go_at_call 5; refine (HC2.out w3 b3).mono ?_; rintro e w4 ⟨rfl, hb4⟩))
          all_goals
            go_wp2
            go_ret3
            refine ⟨.inr ⟨_, _, v3, Hd.out, rfl, ?_⟩, b3.trans (hb4.mono b3.size)⟩
            rw [Hll.out]
            exact own_base8 (own_below own3 hb4) b2.size
      · have Hd := Lib.hid (show DivIs ss none from .inr (.inr ⟨k, hk0, Hf.out, hok⟩))
        have Hok := Lib.hid hok
        clear hok
        go_wp2_with (go_at_call 12; refine HCI.out.mono ?_; rintro e w' ⟨rfl, rfl⟩; rw [Hb.out])
        refine HC0.out.mono ?_
        rintro e w2 ⟨hbo, hb2⟩
        obtain rfl := hbo.not Hok.out
        go_wp2
        go_ret3
        exact ⟨.inl ⟨Hd.out, rfl⟩, hb2⟩
  · have Hd := Lib.hid (show DivIs ss none from .inr (.inl hno))
    cases hb : isB ss
    all_goals
      have Hb := Lib.hid hb
      clear hb
      go_wp2_with (go_at_call 12; refine (is_any A n c ss _ hn Hr.out).mono ?_; rintro e w' ⟨rfl, rfl⟩; rw [Hb.out])
      go_ret3
      exact ⟨.inl ⟨Hd.out, rfl⟩, Below.refl _ _⟩
end Go.Proofs.Ytjdomdeejibnmaa.Tok
