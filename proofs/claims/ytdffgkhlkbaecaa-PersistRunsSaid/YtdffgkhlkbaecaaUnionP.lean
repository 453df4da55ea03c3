/- Union and Find at numbers in range, and slices.EqualFunc of equal lists of numbers. -/
import Derived.Test.YtdffgkhlkbaecaaLow
import Derived.Test.YtdffgkhlkbaecaaUnion2
import Derived.Test.YtdffgkhlkbaecaaClasses12
import Derived.Test.YtdffgkhlkbaecaaEqInt
namespace Go.Proofs.Ytdffgkhlkbaecaa.Tok
open Go.RowKit Go.Proofs.Ytdffgkhlkbaecaa

theorem union_any {base : Nat} (a b g n : Nat) (E : List El) (U : List (Nat × Nat)) (w : World) (h : IsSets base w g E U) (hn : n ≤ 10000) (hU : U.length ≤ 10000) (past : Past n E U) (ha : a < n) (hb : b < n) :
    Calls Try.prog 19 #[.pointer (some ⟨g, 0, none⟩), .int .i64 a, .int .i64 b] w fun e w' => e = .returned (.tuple #[.bool (lea E a != lea E b), .int .i64 0]) ∧ IsSets base w' g (uniP E a b) (uniU E U a b) ∧ BK base w w' := by
  have ok := past.ok hn
  have lw := past.low hn
  have hl := past.len
  have ha' : a < E.length := by omega
  have hb' : b < E.length := by omega
  obtain ⟨a1, a2⟩ := root_ok ok ha'
  obtain ⟨b1, b2⟩ := root_ok ok hb'
  have hi := lea_inj ok lw ha' hb'
  by_cases e : root E a = root E b
  · have e1 : (lea E a != lea E b) = false := by rw [bne_eq_false_iff_eq]; exact hi.2 e
    rw [e1]
    refine (union_same a b g E U w h (by omega) ok ha' hb' e).mono ?_
    rintro x w' ⟨rfl, rfl⟩
    refine ⟨rfl, ?_, BK.refl _ _⟩
    unfold uniP uniU
    rw [if_pos e, if_pos e]
    exact h
  · have e1 : (lea E a != lea E b) = true := by rw [bne_iff_ne]; exact fun x => e (hi.1 x)
    rw [e1]
    by_cases s : sizeOf' E (root E a) < sizeOf' E (root E b)
    · refine (link_any g (root E a) (root E b) (root E b) (root E a) a b E U w h (by omega) hU ok ha' hb' rfl rfl a1 b1 a2 b2 e (.inl ⟨s, rfl, rfl⟩)).mono ?_
      rintro x w' ⟨rfl, h1, h2⟩
      refine ⟨rfl, ?_, h2⟩
      unfold uniP uniU
      rw [if_neg e, if_neg e, if_pos s, if_pos s]
      exact h1
    · refine (link_any g (root E a) (root E b) (root E a) (root E b) a b E U w h (by omega) hU ok ha' hb' rfl rfl a1 b1 a2 b2 e (.inr ⟨s, rfl, rfl⟩)).mono ?_
      rintro x w' ⟨rfl, h1, h2⟩
      refine ⟨rfl, ?_, h2⟩
      unfold uniP uniU
      rw [if_neg e, if_neg e, if_neg s, if_neg s]
      exact h1
theorem find_any {base : Nat} (a g n : Nat) (E : List El) (U : List (Nat × Nat)) (w : World) (h : IsSets base w g E U) (hn : n ≤ 10000) (past : Past n E U) (ha : a < n) :
    Calls Try.prog 20 #[.pointer (some ⟨g, 0, none⟩), .int .i64 a] w fun e w' => e = .returned (.tuple #[.int .i64 (lea E a : Nat), .int .i64 0]) ∧ ∃ q, w' = w.drewN q := by
  have hl := past.len
  refine (findSets_any a g E U w h (by omega) (past.ok hn)).mono ?_
  rintro e w' ⟨rfl, hq⟩
  refine ⟨?_, hq⟩
  unfold findV
  rw [if_pos (show inR (a : Int) E.length = true from decide_eq_true ⟨by omega, by omega⟩), Int.toNat_natCast]
  rfl

theorem Rd.ofOwn {w : World} {base e size n : Nat} {v : Value} {xs : List Value} (h : w.ownsRow base e size v n xs) : ∃ A c, v = .slice A n c ∧ Rd w w.heap.size size A n xs := by
  obtain ⟨A, c, rfl⟩ : ∃ A c, v = .slice A n c := by
    rcases h.2 with ⟨h1, h2⟩ | ⟨g', cap', cur', h1, _⟩
    · exact ⟨none, 0, by rw [h1, h2]⟩
    · exact ⟨_, _, h1⟩
  exact ⟨A, c, rfl, Rd.own h⟩
theorem Lists.bk {base b : Nat} {w w1 : World} {v : Value} {vs : List Value} {L : List (List Nat)} (h : Lists base w v vs L) (hk : BK b w w1) : Lists base w1 v vs L := by
  have k : ∀ {e z n : Nat} {x : Value} {xs : List Value}, KT e = true → w.ownsRow base e z x n xs → w1.ownsRow base e z x n xs := by
    intro e z n x xs he hx
    refine ⟨hx.1, ?_⟩
    rcases hx.2 with h1 | ⟨g, cap, cur, rfl, hb, hh, hr⟩
    · exact .inl h1
    · exact .inr ⟨g, cap, cur, rfl, hb, hk.keeps _ _ _ _ hh he, hr⟩
  exact ⟨h.len, k (by decide) h.out, fun i x l h1 h2 => k (by decide) (h.ins i x l h1 h2), h.apart⟩
end Go.Proofs.Ytdffgkhlkbaecaa.Tok
