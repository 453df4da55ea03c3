/- What the least elements of sets are, through unions: plain mathematics. -/
import Derived.Test.YtdffgkhlkbaecaaUndoMath
namespace Go.Proofs.Ytdffgkhlkbaecaa.Tok

theorem root_uni_is {E : List El} (ok : Ok E) {u l : Nat} (hu : u < E.length) (hl : l < E.length) (hul : u ≠ l) (ru : E[u].1 = u) (rl : E[l].1 = l) (hsz : E[l].2.1 ≤ E[u].2.1) :
    ∀ (n a : Nat) (ha : a < E.length), 10000 - E[a].2.1 < n → root (uni E u l) a = if root E a = l then u else root E a
  | 0, _, _, h => by omega
  | n + 1, a, ha, h => by
    have ok' := uni_ok ok hu hl hul ru rl hsz
    have hn := uni_len E u l
    have ha' : a < (uni E u l).length := by omega
    have hu' : u < (uni E u l).length := by omega
    have hg := uni_get hu hl ha hul ha'
    have hgu := uni_get hu hl hu hul hu'
    rw [if_pos rfl] at hgu
    have hru : root (uni E u l) u = u := root_self hu' (by rw [hgu]; exact ru)
    by_cases h1 : E[a].1 = a
    · rw [root_self ha h1]
      by_cases e2 : a = l
      · rw [if_pos e2]
        have e1 : a ≠ u := by omega
        rw [if_neg e1, if_pos e2] at hg
        have h3 : (uni E u l)[a].1 = u := by rw [hg]
        rw [root_up ok' ha' (by rw [h3]; exact fun e => e1 e.symm), h3]
        exact hru
      · rw [if_neg e2]
        by_cases e1 : a = u
        · rw [e1]; exact hru
        · rw [if_neg e1, if_neg e2] at hg
          exact root_self ha' (by rw [hg]; exact h1)
    · have e1 : a ≠ u := by rintro rfl; exact h1 ru
      have e2 : a ≠ l := by rintro rfl; exact h1 rl
      rw [if_neg e1, if_neg e2] at hg
      have h3 : (uni E u l)[a].1 = E[a].1 := by rw [hg]
      rw [root_up ok' ha' (by rw [h3]; exact h1), h3, root_up ok ha h1]
      have hp := ok.par a ha
      have h4 := ok.up a ha h1 hp
      have h5 := ok.top _ hp
      exact root_uni_is ok hu hl hul ru rl hsz n _ hp (by omega)
theorem root_uni {E : List El} (ok : Ok E) {u l a : Nat} (hu : u < E.length) (hl : l < E.length) (hul : u ≠ l) (ru : E[u].1 = u) (rl : E[l].1 = l) (hsz : E[l].2.1 ≤ E[u].2.1) (ha : a < E.length) :
    root (uni E u l) a = if root E a = l then u else root E a := root_uni_is ok hu hl hul ru rl hsz _ a ha (Nat.lt_succ_self _)
theorem least_uni {E : List El} {u l a : Nat} (hu : u < E.length) (hl : l < E.length) (hul : u ≠ l) (ha : a < E.length) :
    leastOf (uni E u l) a = if a = u then min (leastOf E u) (leastOf E l) else leastOf E a := by
  have hn := uni_len E u l
  have ha' : a < (uni E u l).length := by omega
  have hg := uni_get hu hl ha hul ha'
  have e0 : ∀ (F : List El) (b : Nat) (h : b < F.length), leastOf F b = F[b].2.2 := fun F b h => by simp [leastOf, h]
  rw [e0 _ a ha', e0 _ u hu, e0 _ l hl, e0 _ a ha, hg]
  by_cases h1 : a = u
  · rw [if_pos h1, if_pos h1]
  · rw [if_neg h1, if_neg h1]
    by_cases h2 : a = l
    · subst h2; rw [if_pos rfl]
    · rw [if_neg h2]
/-- The least element that a root knows is one of its set, and there is none below. -/
structure Low (E : List El) : Prop where
  mem : ∀ r, (h : r < E.length) → E[r].1 = r → leastOf E r < E.length ∧ root E (leastOf E r) = r
  min : ∀ a, a < E.length → leastOf E (root E a) ≤ a
theorem low_ones (n : Nat) : Low (ones n) where
  mem := fun r h _ => by
    have hn := ones_len n
    have e : leastOf (ones n) r = r := by simp [leastOf, h, ones_get]
    rw [e]
    exact ⟨h, root_self h (by rw [ones_get])⟩
  min := fun a h => by
    rw [root_self h (by rw [ones_get])]
    simp [leastOf, h, ones_get]
theorem low_uni {E : List El} (ok : Ok E) (lw : Low E) {u l : Nat} (hu : u < E.length) (hl : l < E.length) (hul : u ≠ l) (ru : E[u].1 = u) (rl : E[l].1 = l) (hsz : E[l].2.1 ≤ E[u].2.1) : Low (uni E u l) where
  mem := fun r h hr => by
    have hn := uni_len E u l
    have h' : r < E.length := by omega
    have hg := uni_get hu hl h' hul h
    have hrl : r ≠ l := by
      rintro rfl
      rw [if_neg (fun e => hul e.symm), if_pos rfl] at hg
      rw [hg] at hr
      exact hul hr
    rw [least_uni hu hl hul h', hn]
    obtain ⟨u1, u2⟩ := lw.mem u hu ru
    obtain ⟨l1, l2⟩ := lw.mem l hl rl
    by_cases e : r = u
    · subst e
      rw [if_pos rfl]
      rcases Nat.le_total (leastOf E r) (leastOf E l) with h3 | h3
      · rw [Nat.min_eq_left h3, root_uni ok hu hl hul ru rl hsz u1, u2, if_neg hul]
        exact ⟨u1, rfl⟩
      · rw [Nat.min_eq_right h3, root_uni ok hu hl hul ru rl hsz l1, l2, if_pos rfl]
        exact ⟨l1, rfl⟩
    · rw [if_neg e]
      rw [if_neg e, if_neg hrl] at hg
      obtain ⟨r1, r2⟩ := lw.mem r h' (by rw [hg] at hr; exact hr)
      rw [root_uni ok hu hl hul ru rl hsz r1, r2, if_neg hrl]
      exact ⟨r1, rfl⟩
  min := fun a ha => by
    have hn := uni_len E u l
    have ha' : a < E.length := by omega
    have h1 := lw.min a ha'
    obtain ⟨h2, h3⟩ := root_ok ok ha'
    rw [root_uni ok hu hl hul ru rl hsz ha']
    by_cases e : root E a = l
    · rw [if_pos e, least_uni hu hl hul hu, if_pos rfl]
      rw [e] at h1
      omega
    · rw [if_neg e, least_uni hu hl hul h2]
      by_cases e2 : root E a = u
      · rw [if_pos e2]
        rw [e2] at h1
        omega
      · rw [if_neg e2]
        exact h1
theorem Past.low {n : Nat} {E : List El} {U : List (Nat × Nat)} (hn : n ≤ 10000) (h : Past n E U) : Low E := by
  induction h with
  | start => exact low_ones n
  | link h hu hl hul ru rl hs ih => exact low_uni (h.ok hn) ih hu hl hul ru rl hs
/-- The least element of an element's set. -/
def lea (E : List El) (a : Nat) : Nat := leastOf E (root E a)
theorem lea_inj {E : List El} (ok : Ok E) (lw : Low E) {a b : Nat} (ha : a < E.length) (hb : b < E.length) : lea E a = lea E b ↔ root E a = root E b := by
  refine ⟨fun h => ?_, fun h => by unfold lea; rw [h]⟩
  obtain ⟨a1, a2⟩ := root_ok ok ha
  obtain ⟨b1, b2⟩ := root_ok ok hb
  rw [← (lw.mem _ a1 a2).2, ← (lw.mem _ b1 b2).2]
  unfold lea at h
  rw [h]
theorem lea_lt {E : List El} (ok : Ok E) (lw : Low E) {a : Nat} (ha : a < E.length) : lea E a < E.length := by
  obtain ⟨a1, a2⟩ := root_ok ok ha
  exact (lw.mem _ a1 a2).1
theorem lea_lea {E : List El} (ok : Ok E) (lw : Low E) {a : Nat} (ha : a < E.length) : lea E (lea E a) = lea E a := by
  obtain ⟨a1, a2⟩ := root_ok ok ha
  unfold lea
  rw [(lw.mem _ a1 a2).2]
/-- What a union leaves. -/
def uniP (E : List El) (a b : Nat) : List El := if root E a = root E b then E else if sizeOf' E (root E a) < sizeOf' E (root E b) then uni E (root E b) (root E a) else uni E (root E a) (root E b)
def uniU (E : List El) (U : List (Nat × Nat)) (a b : Nat) : List (Nat × Nat) := if root E a = root E b then U else if sizeOf' E (root E a) < sizeOf' E (root E b) then U ++ [(root E a, leastOf E (root E b))] else U ++ [(root E b, leastOf E (root E a))]
theorem uniU_len (E : List El) (U : List (Nat × Nat)) (a b : Nat) : (uniU E U a b).length = U.length + if root E a = root E b then 0 else 1 := by
  unfold uniU
  by_cases h : root E a = root E b
  · rw [if_pos h, if_pos h]; rfl
  · rw [if_neg h, if_neg h]
    split <;> simp
theorem size_at {E : List El} {r : Nat} (h : r < E.length) : sizeOf' E r = E[r].2.1 := by simp [sizeOf', h]
theorem Past.uniP {n : Nat} {E : List El} {U : List (Nat × Nat)} (hn : n ≤ 10000) (h : Past n E U) {a b : Nat} (ha : a < n) (hb : b < n) : Past n (uniP E a b) (uniU E U a b) := by
  have ok := h.ok hn
  have hl := h.len
  obtain ⟨a1, a2⟩ := root_ok ok (show a < E.length by omega)
  obtain ⟨b1, b2⟩ := root_ok ok (show b < E.length by omega)
  unfold Tok.uniP uniU
  by_cases e : root E a = root E b
  · rw [if_pos e, if_pos e]; exact h
  · rw [if_neg e, if_neg e]
    by_cases s : sizeOf' E (root E a) < sizeOf' E (root E b)
    · rw [if_pos s, if_pos s]
      rw [size_at a1, size_at b1] at s
      exact Past.link h b1 a1 (fun x => e x.symm) b2 a2 (by omega)
    · rw [if_neg s, if_neg s]
      rw [size_at a1, size_at b1] at s
      exact Past.link h a1 b1 e a2 b2 (by omega)
theorem Chain.uniP {n : Nat} {E0 E : List El} {U0 U : List (Nat × Nat)} (hn : n ≤ 10000) (hp : Past n E U) (h : Chain E0 U0 E U) {a b : Nat} (ha : a < n) (hb : b < n) : Chain E0 U0 (uniP E a b) (uniU E U a b) := by
  have ok := hp.ok hn
  have hl := hp.len
  obtain ⟨a1, a2⟩ := root_ok ok (show a < E.length by omega)
  obtain ⟨b1, b2⟩ := root_ok ok (show b < E.length by omega)
  unfold Tok.uniP uniU
  by_cases e : root E a = root E b
  · rw [if_pos e, if_pos e]; exact h
  · rw [if_neg e, if_neg e]
    by_cases s : sizeOf' E (root E a) < sizeOf' E (root E b)
    · rw [if_pos s, if_pos s]
      exact Chain.link h b1 a1 (fun x => e x.symm) a2
    · rw [if_neg s, if_neg s]
      exact Chain.link h a1 b1 e b2
/-- A union makes the lesser one of both the least of both. -/
theorem lea_uniP {n : Nat} {E : List El} {U : List (Nat × Nat)} (hn : n ≤ 10000) (h : Past n E U) {a b c : Nat} (ha : a < n) (hb : b < n) (hc : c < n) :
    lea (uniP E a b) c = if lea E c = lea E a ∨ lea E c = lea E b then min (lea E a) (lea E b) else lea E c := by
  have ok := h.ok hn
  have lw := h.low hn
  have hl := h.len
  have ha' : a < E.length := by omega
  have hb' : b < E.length := by omega
  have hc' : c < E.length := by omega
  obtain ⟨a1, a2⟩ := root_ok ok ha'
  obtain ⟨b1, b2⟩ := root_ok ok hb'
  obtain ⟨c1, c2⟩ := root_ok ok hc'
  have ea := lea_inj ok lw hc' ha'
  have eb := lea_inj ok lw hc' hb'
  simp only [ea, eb]
  unfold uniP
  by_cases e : root E a = root E b
  · rw [if_pos e]
    have : lea E a = lea E b := by unfold lea; rw [e]
    rw [this, Nat.min_self]
    split
    · rename_i h1
      unfold lea
      rcases h1 with h1 | h1
      · rw [h1, e]
      · rw [h1]
    · rfl
  · rw [if_neg e]
    by_cases s : sizeOf' E (root E a) < sizeOf' E (root E b)
    · rw [if_pos s]
      rw [size_at a1, size_at b1] at s
      unfold lea
      have hne : root E b ≠ root E a := fun x => e x.symm
      rw [root_uni ok b1 a1 hne b2 a2 (by omega) hc']
      by_cases h1 : root E c = root E a
      · rw [if_pos h1, if_pos (.inl h1), least_uni b1 a1 hne b1, if_pos rfl, Nat.min_comm]
      · rw [if_neg h1, least_uni b1 a1 hne c1]
        by_cases h2 : root E c = root E b
        · rw [if_pos h2, if_pos (.inr h2), Nat.min_comm]
        · rw [if_neg h2, if_neg (by rintro (h3 | h3) <;> contradiction)]
    · rw [if_neg s]
      rw [size_at a1, size_at b1] at s
      unfold lea
      rw [root_uni ok a1 b1 e a2 b2 (by omega) hc']
      by_cases h1 : root E c = root E b
      · rw [if_pos h1, if_pos (.inr h1), least_uni a1 b1 e a1, if_pos rfl]
      · rw [if_neg h1, least_uni a1 b1 e c1]
        by_cases h2 : root E c = root E a
        · rw [if_pos h2, if_pos (.inl h2)]
        · rw [if_neg h2, if_neg (by rintro (h3 | h3) <;> contradiction)]
end Go.Proofs.Ytdffgkhlkbaecaa.Tok
