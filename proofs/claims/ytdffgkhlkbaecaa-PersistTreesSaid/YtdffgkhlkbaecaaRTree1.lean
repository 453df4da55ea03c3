/- The reference's lists: Rank and Has. -/
import Derived.Test.YtdffgkhlkbaecaaRefMath
import Derived.Test.YtdffgkhlkbaecaaSliceRd
namespace Go.Proofs.Ytdffgkhlkbaecaa.Tok
open Go.RowKit Go.Proofs.Ytdffgkhlkbaecaa
open Tr (Sorted CmpOk lows highs)

/-- A list of entries that a call has made. -/
def OwE (w : World) (v : Value) (L : List (ByteArray × Int)) : Prop := ∃ b, w.ownsRow b 73 2 v L.length (L.flatMap enV)
theorem OwE.below {w w' : World} {v : Value} {L : List (ByteArray × Int)} (h : OwE w v L) (hb : Below w.heap.size w w') : OwE w' v L := by
  obtain ⟨b, h⟩ := h
  exact ⟨b, own_below h hb⟩
theorem str_ne12 {x s : ByteArray} (h : x ≠ s) : (x.toList == s.toList) = false := by
  rw [beq_eq_false_iff_ne]
  intro he
  rw [ByteArray.toList_eq, ByteArray.toList_eq] at he
  exact h (ByteArray.ext (Array.toList_inj.1 he))
theorem less_iff (a b : ByteArray) : (Op.bytesLess a.toList b.toList = true ∧ cmpS a b < 0) ∨ (Op.bytesLess a.toList b.toList = false ∧ ¬ cmpS a b < 0) := by
  rcases cmpS_cases a b with ⟨h, e⟩ | ⟨h, _, e⟩ | ⟨h, _, e⟩
  · exact .inl ⟨h, by omega⟩
  · exact .inr ⟨h, by omega⟩
  · exact .inr ⟨h, by omega⟩
theorem ent_len {w : World} {B n : Nat} {A : Option Addr} {L : EntL} (h : Rd w B 2 A n (L.flatMap enV)) : L.length = n := by
  have := h.len
  rw [enV_len] at this
  omega
set_option maxHeartbeats 800000 in
theorem rrank_any (A : Option Addr) (n c : Nat) (L : EntL) (k : ByteArray) (w : World) (hs : Sorted cmpS L) (hn : n ≤ 1000) (hr : Rd w w.heap.size 2 A n (L.flatMap enV)) :
    Calls Try.prog 33 #[.slice A n c, .string k] w fun e w' => e = .returned (.int .i64 ((lows cmpS k L).length : Nat)) ∧ w' = w := by
  have hlen := ent_len hr
  have Hlow := Lib.hid (fun i h => low_at (k := k) hs i h)
  have Hle := Lib.hid (lows_le k L)
  obtain ⟨R, hR⟩ : ∃ R, R = (lows cmpS k L).length := ⟨_, rfl⟩
  rw [← hR] at Hlow Hle ⊢
  have Hlen := Lib.hid hlen
  have Hr := Lib.hid hr
  clear hlen hr hs hR
  go_enter Try.func33, Try.ntmps33
  go_wp2
  go_loop [5] (fun i => ∃ j : Nat, j ≤ R ∧ i = .int .i64 j) (fun i => R - (intOf i).toNat)
  case atStart => exact ⟨0, Nat.zero_le _, rfl⟩
  case round =>
    obtain ⟨j, hj, rfl⟩ := hrel
    have hle := Hle.out
    by_cases hlt : j < n
    · obtain ⟨b, off, rfl, hbb, hc⟩ := Hr.out.pos (by omega)
      have hk1 : j < L.length := by have := Hlen.out; omega
      obtain ⟨hg0, hg1⟩ := en_at L j hk1
      have hcell := hc _ _ hg0
      have hlow := Hlow.out j hk1
      obtain ⟨x, hx⟩ : ∃ x, x = L[j].1 := ⟨_, rfl⟩
      rw [← hx] at hcell hlow
      clear hx hg0 hg1 hc
      rcases less_iff x k with ⟨hb, hc⟩ | ⟨hb, hc⟩
      · have h1 := Lib.hid (hlow.1 hc)
        clear hlow hc
        go_wp2
        go_light
        exact ⟨⟨j + 1, h1.out, by go_num⟩, by have := h1.out; simp [intOf]; omega⟩
      · have h1 : j = R := by
          rcases Nat.lt_or_ge j R with h | h
          · exact absurd (hlow.2 h) hc
          · omega
        subst h1
        clear hlow hc
        go_wp2
        go_ret
        exact ⟨rfl, rfl⟩
    · have h1 : j = R := by have := Hlen.out; omega
      subst h1
      go_wp2
      go_ret
      exact ⟨rfl, rfl⟩
set_option maxHeartbeats 800000 in
theorem rhas_any (A : Option Addr) (n c : Nat) (L : EntL) (k : ByteArray) (w : World) (hs : Sorted cmpS L) (hn : n ≤ 1000) (hr : Rd w w.heap.size 2 A n (L.flatMap enV)) :
    Calls Try.prog 35 #[.slice A n c, .string k] w fun e w' => e = .returned (.bool (hasK k L)) ∧ w' = w := by
  have HR := Lib.hid (rrank_any A n c L k w hs hn hr)
  have hlen := ent_len hr
  have hle := lows_le k L
  have hcases := sorted_rest k hs
  obtain ⟨R, hR⟩ : ∃ R, R = (lows cmpS k L).length := ⟨_, rfl⟩
  have hcell : ∀ h : R < L.length, ∃ b off, A = some ⟨b, off, none⟩ ∧ w.cell? ⟨b, off + R * 2, none⟩ = some (.string L[R].1) := fun h => by
    obtain ⟨b, off, e, hbb, hc⟩ := hr.pos (by omega)
    exact ⟨b, off, e, hc _ _ (en_at L R h).1⟩
  by_cases hlt : R < n
  · obtain ⟨b, off, rfl, hc⟩ := hcell (by omega)
    by_cases he : L[R].1 = k
    · have hv : hasK k L = true := by
        rcases hcases with ⟨_, _, h2⟩ | ⟨h1, _⟩
        · subst hR
          exact absurd (cmpS_ok.eq.2 he.symm) (h2 (by omega))
        · exact h1
      rw [he] at hc
      rw [← hR] at HR
      generalize hasK k L = o at hv ⊢
      subst hv
      clear he hcases hcell hle hR hr hlen hs
      go_enter Try.func35, Try.ntmps35
      go_wp2_with fail
      refine (HR.out).mono ?_
      rintro e w' ⟨rfl, rfl⟩
      go_wp2
      go_ret
      exact ⟨rfl, rfl⟩
    · have hv : hasK k L = false := by
        rcases hcases with ⟨h1, _⟩ | ⟨_, v, _, h2, h3⟩
        · exact h1
        · subst hR
          rw [h3] at he
          exact absurd rfl he
      have hne := str_ne12 he
      generalize L[R].1 = x at hc hne
      rw [← hR] at HR
      generalize hasK k L = o at hv ⊢
      subst hv
      clear he hcases hcell hle hR hr hlen hs
      go_enter Try.func35, Try.ntmps35
      go_wp2_with fail
      refine (HR.out).mono ?_
      rintro e w' ⟨rfl, rfl⟩
      go_wp2
      go_ret
      exact ⟨rfl, rfl⟩
  · have hv : hasK k L = false := by
      rcases hcases with ⟨h1, _⟩ | ⟨_, v, _, h2, h3⟩
      · exact h1
      · subst hR
        omega
    have hg : decide ((R : Int) < (n : Int)) = false := decide_eq_false (by omega)
    have hg2 : decide (R < n) = false := decide_eq_false hlt
    have hge : n ≤ R := by omega
    rw [← hR] at HR
    generalize hasK k L = o at hv ⊢
    subst hv
    clear hcases hcell hle hR hr hlen hs hlt
    go_enter Try.func35, Try.ntmps35
    go_wp2_with fail
    refine (HR.out).mono ?_
    rintro e w' ⟨rfl, rfl⟩
    go_wp2
    go_ret
    exact ⟨rfl, rfl⟩
end Go.Proofs.Ytdffgkhlkbaecaa.Tok
