/- Union and Find at numbers in range, and slices.EqualFunc of equal lists of numbers. -/
import Derived.Test.YtimgnmlcgnibhaaLow
import Derived.Test.YtimgnmlcgnibhaaUnion2
import Derived.Test.YtimgnmlcgnibhaaClasses12
import Derived.Test.YtimgnmlcgnibhaaEqInt
namespace Go.Proofs.Ytimgnmlcgnibhaa.Tok
open Go.RowKit Go.Proofs.Ytimgnmlcgnibhaa

theorem union_any {base : Nat} (a b g n : Nat) (E : List El) (U : List (Nat × Nat)) (w : World) (h : IsSets base w g E U) (hn : n ≤ 10000) (hU : U.length ≤ 10000) (past : Past n E U) (ha : a < n) (hb : b < n) :
    Calls Try.prog 41 #[.pointer (some ⟨g, 0, none⟩), .int .i64 a, .int .i64 b] w fun e w' => e = .returned (.tuple #[.bool (lea E a != lea E b), .int .i64 0]) ∧ IsSets base w' g (uniP E a b) (uniU E U a b) ∧ BK base w w' := by
  have ok := past.ok hn
  have lw := past.low hn
  have hl := past.len
  have ha' : a < E.length := by omega
  have hb' : b < E.length := by omega
  obtain ⟨a1, a2⟩ := root_ok ok ha'
  obtain ⟨b1, b2⟩ := root_ok ok hb'
  have hi := lea_inj ok lw ha' hb'
  by_cases e : root E a = root E b
  · have e1 : (lea E a != lea E b) = false := by rw [bne_eq_false_iff_eq]; exact hi.2 e
    rw [e1]
    refine (union_same a b g E U w h (by omega) ok ha' hb' e).mono ?_
    rintro x w' ⟨rfl, rfl⟩
    refine ⟨rfl, ?_, BK.refl _ _⟩
    unfold uniP uniU
    rw [if_pos e, if_pos e]
    exact h
  · have e1 : (lea E a != lea E b) = true := by rw [bne_iff_ne]; exact fun x => e (hi.1 x)
    rw [e1]
    by_cases s : sizeOf' E (root E a) < sizeOf' E (root E b)
    · refine (link_any g (root E a) (root E b) (root E b) (root E a) a b E U w h (by omega) hU ok ha' hb' rfl rfl a1 b1 a2 b2 e (.inl ⟨s, rfl, rfl⟩)).mono ?_
      rintro x w' ⟨rfl, h1, h2⟩
      refine ⟨rfl, ?_, h2⟩
      unfold uniP uniU
      rw [if_neg e, if_neg e, if_pos s, if_pos s]
      exact h1
    · refine (link_any g (root E a) (root E b) (root E a) (root E b) a b E U w h (by omega) hU ok ha' hb' rfl rfl a1 b1 a2 b2 e (.inr ⟨s, rfl, rfl⟩)).mono ?_
      rintro x w' ⟨rfl, h1, h2⟩
      refine ⟨rfl, ?_, h2⟩
      unfold uniP uniU
      rw [if_neg e, if_neg e, if_neg s, if_neg s]
      exact h1
theorem find_any {base : Nat} (a g n : Nat) (E : List El) (U : List (Nat × Nat)) (w : World) (h : IsSets base w g E U) (hn : n ≤ 10000) (past : Past n E U) (ha : a < n) :
    Calls Try.prog 40 #[.pointer (some ⟨g, 0, none⟩), .int .i64 a] w fun e w' => e = .returned (.tuple #[.int .i64 (lea E a : Nat), .int .i64 0]) ∧ ∃ q, w' = w.drewN q := by
  have hl := past.len
  refine (findSets_any a g E U w h (by omega) (past.ok hn)).mono ?_
  rintro e w' ⟨rfl, hq⟩
  refine ⟨?_, hq⟩
  unfold findV
  rw [if_pos (show inR (a : Int) E.length = true from decide_eq_true ⟨by omega, by omega⟩), Int.toNat_natCast]
  rfl

theorem Rd.ofOwn {w : World} {base e size n : Nat} {v : Value} {xs : List Value} (h : w.ownsRow base e size v n xs) : ∃ A c, v = .slice A n c ∧ Rd w w.heap.size size A n xs := by
  obtain ⟨A, c, rfl⟩ : ∃ A c, v = .slice A n c := by
    rcases h.2 with ⟨h1, h2⟩ | ⟨g', cap', cur', h1, _⟩
    · exact ⟨none, 0, by rw [h1, h2]⟩
    · exact ⟨_, _, h1⟩
  exact ⟨A, c, rfl, Rd.own h⟩
set_option maxHeartbeats 1600000 in
theorem eqNats_any (A A' : Option Addr) (n c d B B' : Nat) (l : List Nat) (w : World) (hn : n ≤ 1000000) (h1 : Rd w B 1 A n (nats l)) (h2 : Rd w B' 1 A' n (nats l)) :
    Calls Try.prog 85 #[.slice A n c, .slice A' n d] w fun e w' => e = .returned (.bool true) ∧ ∃ q, w' = w.drewN q := by
  have e : nats l = (l.map fun (x : Nat) => (x : Int)).map (Value.int .i64) := by simp [nats]
  rw [e] at h1 h2
  have H := Lib.hid (eqInt_same12 A A' n c d B B' _ w (by omega) h1 h2)
  clear h1 h2 e
  go_enter Try.func85, Try.ntmps85
  go_wp2_with fail
  refine (H.out).mono ?_
  rintro e w' ⟨rfl, q, rfl⟩
  go_wp2
  go_ret
  exact ⟨rfl, q, rfl⟩
set_option maxHeartbeats 1600000 in
set_option maxRecDepth 8000 in
theorem eqLists_any (v v' : Value) (base base' : Nat) (L : List (List Nat)) (w : World) (hL : L.length ≤ 1000000) (hLl : ∀ l ∈ L, l.length ≤ 1000000) (h1 : ∃ vs, Lists base w v vs L) (h2 : ∃ vs, Lists base' w v' vs L) :
    Calls Try.prog 84 #[v, v', .func (.func 85) #[] #[]] w fun e w' => e = .returned (.bool true) ∧ ∃ q, w' = w.drewN q := by
  obtain ⟨vs, h1⟩ := h1
  obtain ⟨us, h2⟩ := h2
  obtain ⟨A, c, rfl, r1⟩ := Rd.ofOwn h1.out
  obtain ⟨A', c', rfl, r2⟩ := Rd.ofOwn h2.out
  obtain ⟨n, hn⟩ : ∃ n, n = L.length := ⟨_, rfl⟩
  rw [← hn] at hL r1 r2 ⊢
  have Hn := Lib.hid hn
  have H1 := Lib.hid h1
  have H2 := Lib.hid h2
  have R1 := Lib.hid r1
  have R2 := Lib.hid r2
  have HLl := Lib.hid hLl
  clear h1 h2 r1 r2 hn hLl
  go_enter Try.func84, Try.ntmps84
  go_wp2
  go_loopw [17] (fun i wr => ∃ k q : Nat, k ≤ n ∧ i = .int .i64 k ∧ wr = w.drewN q) (fun i _ => n - (intOf i).toNat)
  case atStart => exact ⟨0, 0, Nat.zero_le _, rfl, rfl⟩
  case round =>
    obtain ⟨k, q, hk, rfl, hw⟩ := hrel
    by_cases hlt : k < n
    · obtain ⟨b, off, rfl, hbb, hc⟩ := R1.out.pos (by omega)
      obtain ⟨b', off', rfl, hbb', hc'⟩ := R2.out.pos (by omega)
      have hkL : k < L.length := by have := Hn.out; omega
      have hlk : L[k]? = some L[k] := List.getElem?_eq_getElem hkL
      obtain ⟨x, hx⟩ : ∃ x, vs[k]? = some x := ⟨_, List.getElem?_eq_getElem (by rw [H1.out.len]; exact hkL)⟩
      obtain ⟨y, hy⟩ : ∃ y, us[k]? = some y := ⟨_, List.getElem?_eq_getElem (by rw [H2.out.len]; exact hkL)⟩
      have hll := HLl.out _ (List.getElem_mem hkL)
      obtain ⟨X, cx, rfl, rx⟩ := Rd.ofOwn (H1.out.ins k x _ hx hlk)
      obtain ⟨Y, cy, rfl, ry⟩ := Rd.ofOwn (H2.out.ins k y _ hy hlk)
      have c0 : wr.cell? ⟨b, off + k, none⟩ = some (.slice X L[k].length cx) := by subst hw; exact hc _ _ hx
      have d0 : wr.cell? ⟨b', off' + k, none⟩ = some (.slice Y L[k].length cy) := by subst hw; exact hc' _ _ hy
      have HQ := Lib.hid (eqNats_any X Y L[k].length cx cy w.heap.size w.heap.size L[k] wr hll (by subst hw; exact rx.drewN q) (by subst hw; exact ry.drewN q))
      obtain ⟨m, hm⟩ : ∃ m, m = L[k].length := ⟨_, rfl⟩
      rw [← hm] at c0 d0 HQ
      have Hw := Lib.hid hw
      clear hc hc' hx hy rx ry hll hm hlk hw
      go_wp2_with fail
      refine (HQ.out).mono ?_
      rintro e w' ⟨rfl, q', rfl⟩
      go_wp2
      go_light
      exact ⟨⟨k + 1, q + q', by omega, by go_num, by rw [Hw.out, World.drewN_drewN]⟩, by simp [intOf]; omega⟩
    · obtain rfl : k = n := by omega
      go_wp2
      go_ret
      exact ⟨rfl, q, by first | rfl | exact hw⟩
theorem classesEq_any (v v' : Value) (base base' : Nat) (L : List (List Nat)) (w : World) (hL : L.length ≤ 1000000) (hLl : ∀ l ∈ L, l.length ≤ 1000000) (h1 : ∃ vs, Lists base w v vs L) (h2 : ∃ vs, Lists base' w v' vs L) :
    Calls Try.prog 49 #[v, v'] w fun e w' => e = .returned (.bool true) ∧ ∃ q, w' = w.drewN q := by
  have H := Lib.hid (eqLists_any v v' base base' L w hL hLl h1 h2)
  clear h1 h2 hL hLl
  go_enter Try.func49, Try.ntmps49
  go_wp2_with fail
  refine (H.out).mono ?_
  rintro e w' ⟨rfl, q, rfl⟩
  go_wp2
  go_ret
  exact ⟨rfl, q, rfl⟩
theorem Lists.bk {base b : Nat} {w w1 : World} {v : Value} {vs : List Value} {L : List (List Nat)} (h : Lists base w v vs L) (hk : BK b w w1) : Lists base w1 v vs L := by
  have k : ∀ {e z n : Nat} {x : Value} {xs : List Value}, KT e = true → w.ownsRow base e z x n xs → w1.ownsRow base e z x n xs := by
    intro e z n x xs he hx
    refine ⟨hx.1, ?_⟩
    rcases hx.2 with h1 | ⟨g, cap, cur, rfl, hb, hh, hr⟩
    · exact .inl h1
    · exact .inr ⟨g, cap, cur, rfl, hb, hk.keeps _ _ _ _ hh he, hr⟩
  exact ⟨h.len, k (by decide) h.out, fun i x l h1 h2 => k (by decide) (h.ins i x l h1 h2), h.apart⟩
end Go.Proofs.Ytimgnmlcgnibhaa.Tok
