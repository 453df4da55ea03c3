/- The law CompressLetters: every way through it returns true. -/
import Derived.Test.YtjdomdeejibnmaaLetters
import Derived.Test.YtjdomdeejibnmaaNums
namespace Go.Proofs.Ytjdomdeejibnmaa.Tok
open Go.RowKit Go.Proofs.Ytjdomdeejibnmaa

theorem eqInt_same (A A' : Option Addr) (n c d B B' : Nat) (ss : List Int) (w : World) (hn : n ≤ 140737488355328)
    (h1 : Rd w B 1 A n (ss.map (Value.int .i64))) (h2 : Rd w B' 1 A' n (ss.map (Value.int .i64))) :
    Calls Try.prog 18 #[.slice A n c, .slice A' n d] w fun e w' => e = .returned (.bool true) ∧ ∃ q, w' = w.drewN q := by
  rcases Nat.eq_zero_or_pos n with rfl | hpos
  · clear h1 h2
    go_enter Try.func18, Try.ntmps18
    go_wp2
    go_loop [13] (fun i => i = .int .i64 0) (fun i => 0)
    case atStart => rfl
    case round =>
      subst hrel
      go_wp2
      go_ret
      exact ⟨rfl, 0, rfl⟩
  · obtain ⟨b, off, rfl, hb, hc⟩ := h1.pos hpos
    obtain ⟨b', off', rfl, hb', hc'⟩ := h2.pos hpos
    have hlen := Lib.hid h1.len
    clear h1 h2
    have Hc := Lib.hid hc
    have Hc' := Lib.hid hc'
    clear hc hc'
    go_enter Try.func18, Try.ntmps18
    go_wp2
    go_loopw [13] (fun i wr => ∃ k q : Nat, k ≤ n ∧ i = .int .i64 k ∧ wr = w.drewN q) (fun i _ => n - (intOf i).toNat)
    case atStart => exact ⟨0, 0, by omega, rfl, rfl⟩
    case round =>
      obtain ⟨k, q, hk, rfl, rfl⟩ := hrel
      by_cases hlt : k < n
      · have hk1 : k < ss.length := by have := hlen.out; simp at this; omega
        have hg : (ss.map (Value.int .i64))[k]? = some (.int .i64 ss[k]) := by simp [hk1]
        obtain ⟨x, hx⟩ : ∃ x, x = ss[k] := ⟨_, rfl⟩
        rw [← hx] at hg
        clear hx
        have hcell := Hc.out k _ hg
        have hcell' := Hc'.out k _ hg
        clear hg
        go_wp2
        go_quiet (fail)
        go_wp2
        go_light
        refine ⟨⟨k + 1, _, by omega, by go_num, rfl⟩, by simp [intOf]; omega⟩
      · obtain rfl : k = n := by omega
        go_wp2
        go_ret
        exact ⟨rfl, q, rfl⟩

theorem let121 : letV 121 = .tuple #[.string ⟨#[85, 85, 65]⟩, .int .i64 0] := by
  have h : lettersF 121 = [85, 85, 65] := by
    unfold lettersF
    rw [highs_pos (by decide), highs_pos (by decide), show (((121 - 1) / 20 - 1) / 5 - 1) / 5 = 0 from rfl, highs_zero]
    rfl
  show Value.tuple #[.string ⟨(lettersF 121).toArray⟩, .int .i64 0] = _
  rw [h]
theorem num_ex : numsF (⟨#[85, 85, 65, 66, 90]⟩ : ByteArray).data.toList 0 0 0 = ([121, 2, 0], none) := by decide +kernel
theorem num_of {s : ByteArray} {o : List Int} {a er : Nat} {o' : List Int} (hs : s.size ≤ 40000) (hn : numsF s.data.toList 0 0 0 = (o', none))
    (h : (40000 < s.size ∧ o = [] ∧ a = 0 ∧ er = 4) ∨ (s.size ≤ 40000 ∧ ((∃ o', numsF s.data.toList 0 0 0 = (o', some a) ∧ o = [] ∧ er = 21) ∨ (numsF s.data.toList 0 0 0 = (o, none) ∧ a = 0 ∧ er = 0)))) : o = o' ∧ a = 0 ∧ er = 0 := by
  rcases h with ⟨h, _⟩ | ⟨_, ⟨o2, h, _⟩ | ⟨h, ha, he⟩⟩
  · omega
  · rw [hn] at h
    injection h with _ h
    cases h
  · rw [hn] at h
    injection h with h _
    exact ⟨h.symm, ha, he⟩
theorem num_same {s : ByteArray} {o o2 : List Int} {a er a2 er2 : Nat}
    (h : (40000 < s.size ∧ o = [] ∧ a = 0 ∧ er = 4) ∨ (s.size ≤ 40000 ∧ ((∃ o', numsF s.data.toList 0 0 0 = (o', some a) ∧ o = [] ∧ er = 21) ∨ (numsF s.data.toList 0 0 0 = (o, none) ∧ a = 0 ∧ er = 0))))
    (h' : (40000 < s.size ∧ o2 = [] ∧ a2 = 0 ∧ er2 = 4) ∨ (s.size ≤ 40000 ∧ ((∃ o', numsF s.data.toList 0 0 0 = (o', some a2) ∧ o2 = [] ∧ er2 = 21) ∨ (numsF s.data.toList 0 0 0 = (o2, none) ∧ a2 = 0 ∧ er2 = 0)))) : o2 = o ∧ a2 = a ∧ er2 = er ∧ o.length ≤ 40000 := by
  have hl := numsF_len s.data.toList 0 0 0
  have hsz : s.data.toList.length = s.size := Array.length_toList
  rcases h with ⟨h, rfl, rfl, rfl⟩ | ⟨h0, ⟨o3, h, rfl, rfl⟩ | ⟨h, rfl, rfl⟩⟩ <;> rcases h' with ⟨g, rfl, rfl, rfl⟩ | ⟨g0, ⟨o4, g, rfl, rfl⟩ | ⟨g, rfl, rfl⟩⟩
  all_goals first
    | exact ⟨rfl, rfl, rfl, by simp⟩
    | omega
    | (rw [h] at g; injection g with g1 g2; injection g2 with g2; exact ⟨rfl, g2.symm, rfl, by simp⟩)
    | (rw [h] at g hl; injection g with g1 g2; subst g1; simp only at hl; exact ⟨rfl, rfl, rfl, by omega⟩)
    | (rw [h] at g; injection g with g1 g2; cases g2)

set_option maxHeartbeats 1600000 in
set_option maxRecDepth 8000 in
theorem awake8_any (w : World) : Calls Try.prog 7 #[] w fun e w' => e = .returned (.bool true) ∧ Below w.heap.size w w' := by
  go_enter Try.func7, Try.ntmps7
  go_wp2_with fail
  refine (letters_any 121 w).mono ?_
  rintro e w1 ⟨rfl, hb1⟩
  rw [let121]
  go_wp2_with fail
  refine (numbers_any _ w1).mono ?_
  rintro e w2 ⟨A, c, o, a, er, rfl, hn, own, hb2⟩
  obtain ⟨rfl, rfl, rfl⟩ := num_of (by decide) num_ex hn
  have b2 := hb1.trans (hb2.mono hb1.size)
  have Own := Lib.hid own
  clear own hn
  go_wp2_with fail
  have hlit := World.ownsRow_lit (base := w2.heap.size) (e := 3) (size := 1) w2 #[.int .i64 121, .int .i64 2, .int .i64 0] 3 (Nat.le_refl _) (by simp [maxLen]) rfl
  refine (eqInt_same A _ 3 c 3 _ _ [121, 2, 0] _ (by omega) ((Rd.own Own.out).alloc (Nat.le_refl _) _) (Rd.own hlit)).mono ?_
  rintro e w' ⟨rfl, q, rfl⟩
  go_wp2
  go_ret
  exact ⟨rfl, below_drewN (b2.alloc b2.size _) q⟩

end Go.Proofs.Ytjdomdeejibnmaa.Tok
