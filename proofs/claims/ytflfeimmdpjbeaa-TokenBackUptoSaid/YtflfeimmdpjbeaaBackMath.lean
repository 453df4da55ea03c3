/- Plain facts: gaps and words of a text make it; a text that is made has its words. -/
import Derived.Test.YtflfeimmdpjbeaaGaps
import Derived.Test.YtflfeimmdpjbeaaWeaveMath
namespace Go.Proofs.Ytflfeimmdpjbeaa.Tok
open Go.RowKit Go.Proofs.Ytflfeimmdpjbeaa

theorem tw_all {p : UInt8 → Bool} : ∀ (l : List UInt8) (k : Nat) (b : UInt8), k < (l.takeWhile p).length → l[k]? = some b → p b = true
  | [], k, b, h, _ => by simp at h
  | x :: l, k, b, h, hb => by
    rw [List.takeWhile_cons] at h
    by_cases hx : p x = true
    · rw [if_pos hx] at h
      cases k with
      | zero => simp at hb; subst hb; exact hx
      | succ k => exact tw_all l k b (by simpa using h) (by simpa using hb)
    · rw [if_neg hx] at h
      simp at h
theorem tw_end {p : UInt8 → Bool} : ∀ (l : List UInt8) (b : UInt8), l[(l.takeWhile p).length]? = some b → p b = false
  | [], b, h => by simp at h
  | x :: l, b, h => by
    rw [List.takeWhile_cons] at h
    by_cases hx : p x = true
    · rw [if_pos hx] at h
      exact tw_end l b (by simpa using h)
    · rw [if_neg hx] at h
      simp at h
      subst h
      simpa using hx
theorem endOf_in {L : List UInt8} {i j : Nat} {b : UInt8} (hi : i ≤ j) (hj : j < endOf L i) (hb : L[j]? = some b) : prB b = true := by
  unfold endOf at hj
  exact tw_all (L.drop i) (j - i) b (by omega) (by rw [List.getElem?_drop, show i + (j - i) = j from by omega]; exact hb)
theorem endOf_end {L : List UInt8} {i : Nat} {b : UInt8} (hb : L[endOf L i]? = some b) : prB b = false := by
  unfold endOf at hb
  exact tw_end (L.drop i) b (by rw [List.getElem?_drop]; exact hb)

theorem toksF_pr (L : List UInt8) : ∀ (f i : Nat) (p : Nat × Nat), p ∈ toksF L f i → p.2 = endOf L p.1 ∧ ∃ b, L[p.1]? = some b ∧ prB b = true := by
  intro f
  induction f with
  | zero => intro i p hp; simp [toksF] at hp
  | succ f ih =>
    intro i p hp
    unfold toksF at hp
    cases hL : L[i]? with
    | none => rw [hL] at hp; simp at hp
    | some b =>
      rw [hL] at hp
      simp only at hp
      by_cases hb : prB b = true
      · rw [if_pos hb] at hp
        rcases List.mem_cons.1 hp with rfl | hp
        · exact ⟨rfl, b, hL, hb⟩
        · exact ih _ _ hp
      · rw [if_neg hb] at hp
        exact ih _ _ hp
theorem toksF_cover (L : List UInt8) : ∀ (f i j : Nat) (b : UInt8), L.length + 1 - i ≤ f → i ≤ j → L[j]? = some b → prB b = true → ∃ p ∈ toksF L f i, p.1 ≤ j ∧ j < p.2 := by
  intro f
  induction f with
  | zero =>
    intro i j b hf hi hj _
    have := (List.getElem?_eq_some_iff.1 hj).1
    omega
  | succ f ih =>
    intro i j b hf hi hj hb
    have hlt := (List.getElem?_eq_some_iff.1 hj).1
    have hL : L[i]? = some (L[i]'(by omega)) := List.getElem?_eq_getElem (by omega)
    unfold toksF
    rw [hL]
    simp only
    by_cases hp : prB (L[i]'(by omega)) = true
    · rw [if_pos hp]
      by_cases he : j < endOf L i
      · exact ⟨(i, endOf L i), by simp, hi, he⟩
      · have hg := endOf_gt hL hp
        obtain ⟨p, hp, h1⟩ := ih (endOf L i) j b (by omega) (by omega) hj hb
        exact ⟨p, by simp [hp], h1⟩
    · rw [if_neg hp]
      rcases Nat.eq_or_lt_of_le hi with rfl | hlt2
      · rw [hj] at hL
        injection hL with hL
        rw [← hL] at hp
        exact absurd hb hp
      · exact ih (i + 1) j b (by omega) (by omega) hj hb

/-- What the tokens of a text are, place by place. -/
structure Parted (L : List UInt8) (ts : List (Nat × Nat)) : Prop where
  inside : ∀ k (h : k < ts.length), ts[k].1 < ts[k].2 ∧ ts[k].2 ≤ L.length
  pr : ∀ k (h : k < ts.length) j b, ts[k].1 ≤ j → j < ts[k].2 → L[j]? = some b → prB b = true
  ahead : ∀ k (h : k < ts.length), endTo ts k ≤ ts[k].1
  apart : ∀ k (h : k < ts.length), 0 < k → endTo ts k < ts[k].1
  gap : ∀ k (h : k < ts.length) j b, endTo ts k ≤ j → j < ts[k].1 → L[j]? = some b → prB b = false
  rest : ∀ j b, endTo ts ts.length ≤ j → L[j]? = some b → prB b = false

theorem parted (L : List UInt8) : Parted L (toks L 0) := by
  have hin : ∀ k (h : k < (toks L 0).length), (toks L 0)[k].1 < (toks L 0)[k].2 ∧ (toks L 0)[k].2 ≤ L.length := fun k h => by
    have := toks_in (List.getElem_mem h)
    exact ⟨this.2.1, this.2.2⟩
  have hpr : ∀ k (h : k < (toks L 0).length), (toks L 0)[k].2 = endOf L (toks L 0)[k].1 ∧ ∃ b, L[(toks L 0)[k].1]? = some b ∧ prB b = true := fun k h => toksF_pr L _ 0 _ (List.getElem_mem h)
  have hso := List.pairwise_iff_getElem.1 (toks_sorted L 0)
  have hcov : ∀ j b, L[j]? = some b → prB b = true → ∃ k, ∃ h : k < (toks L 0).length, (toks L 0)[k].1 ≤ j ∧ j < (toks L 0)[k].2 := fun j b hj hb => by
    obtain ⟨p, hp, h1⟩ := toksF_cover L (L.length + 1 - 0) 0 j b (Nat.le_refl _) (Nat.zero_le _) hj hb
    obtain ⟨k, hk, rfl⟩ := List.mem_iff_getElem.1 hp
    exact ⟨k, hk, h1⟩
  have hend : ∀ k x (hx : x < (toks L 0).length), x < k → k ≤ (toks L 0).length → (toks L 0)[x].2 ≤ endTo (toks L 0) k := fun k x hx hxk hk => by
    unfold endTo
    rw [dif_pos ⟨by omega, hk⟩]
    rcases Nat.eq_or_lt_of_le (show x ≤ k - 1 by omega) with rfl | hlt
    · exact Nat.le_refl _
    · have h1 := hso x (k - 1) hx (by omega) hlt
      have h2 := hin (k - 1) (by omega)
      omega
  refine ⟨hin, fun k h j b h1 h2 hb => endOf_in h1 ((hpr k h).1 ▸ h2) hb, fun k h => endTo_at (toks_sorted L 0) k h, fun k h h0 => ?_, fun k h j b h1 h2 hb => ?_, fun j b h1 hb => ?_⟩
  · have h1 := endTo_at (toks_sorted L 0) k h
    rcases Nat.eq_or_lt_of_le h1 with he | hlt
    · obtain ⟨b, hb, hp⟩ := (hpr k h).2
      have h2 : endTo (toks L 0) k = endOf L ((toks L 0)[k - 1]'(by omega)).1 := by
        unfold endTo
        rw [dif_pos ⟨h0, by omega⟩]
        exact (hpr (k - 1) (by omega)).1
      rw [← he, h2] at hb
      exact absurd (endOf_end hb) (by simp [hp])
    · exact hlt
  · cases hp : prB b
    · rfl
    · obtain ⟨x, hx, g1, g2⟩ := hcov j b hb hp
      rcases Nat.lt_or_ge x k with hxk | hxk
      · have := hend k x hx hxk (by omega)
        omega
      · rcases Nat.eq_or_lt_of_le hxk with rfl | hlt
        · omega
        · have := hso k x h hx hlt
          have := hin k h
          omega
  · cases hp : prB b
    · rfl
    · obtain ⟨x, hx, g1, g2⟩ := hcov j b hb hp
      have := hend (toks L 0).length x hx hx (Nat.le_refl _)
      omega

theorem allB_ext {p : UInt8 → Bool} {s : ByteArray} {i j : Nat} (h : ∀ k b, i ≤ k → k < j → s.data.toList[k]? = some b → p b = true) : allB p (s.extract i j) = true := by
  unfold allB
  rw [extract_list, List.all_eq_true]
  intro b hb
  obtain ⟨k, hk, rfl⟩ := List.mem_iff_getElem.1 hb
  simp only [List.length_take, List.length_drop] at hk
  refine h (i + k) _ (by omega) (by omega) ?_
  rw [List.getElem_take, List.getElem_drop]
  exact List.getElem?_eq_getElem _
theorem take_glue (L : List UInt8) {a b : Nat} (h : a ≤ b) : L.take a ++ (L.drop a).take (b - a) = L.take b := by
  rw [show b = a + (b - a) from by omega, List.take_add, show a + (b - a) - a = b - a from by omega]
theorem neB_pos {s : ByteArray} (h : 0 < s.size) : neB s = true := by
  cases hn : neB s
  · have := neB_false hn
    rw [ByteArray.toList_eq] at this
    have h2 : s.data.toList.length = s.size := Array.length_toList
    rw [this] at h2
    simp at h2
    omega
  · rfl

def wordsOf (s : ByteArray) (ts : List (Nat × Nat)) : List ByteArray := ts.map fun p => s.extract p.1 p.2
theorem gAt_words (s : ByteArray) (ts : List (Nat × Nat)) (k : Nat) (h : k < ts.length) : gAt (wordsOf s ts) k = s.extract ts[k].1 ts[k].2 := by
  rw [gAt_get _ _ (by simpa [wordsOf] using h)]
  simp [wordsOf]
theorem gAt_gaps (s : ByteArray) (ts : List (Nat × Nat)) (k : Nat) (h : k ≤ ts.length) : gAt (gapsOf s ts) k = gapK s ts k := by
  rw [gAt_get _ _ (by rw [gapsOf_len]; omega)]
  simp [gapsOf, gapsTo]
theorem wordsOf_len (s : ByteArray) (ts : List (Nat × Nat)) : (wordsOf s ts).length = ts.length := by simp [wordsOf]

theorem fine_gap {s : ByteArray} (hf : fine s s.size) {j : Nat} {b : UInt8} (hb : s.data.toList[j]? = some b) (hp : prB b = false) : spB b = true := by
  have hj : j < s.size := by have := (List.getElem?_eq_some_iff.1 hb).1; simpa using this
  rw [byteAt s j hj] at hb
  injection hb with hb
  subst hb
  have h0 := hf j hj hj
  by_cases h1 : cls s[j].toNat = 1
  · exact cls_sp h1
  · rw [cls_pr h0 h1] at hp
    cases hp

theorem wv_words {s : ByteArray} {ts : List (Nat × Nat)} (hp : Parted s.data.toList ts) : ∀ k, k ≤ ts.length → wvTo (gapsOf s ts) (wordsOf s ts) k = s.data.toList.take (endTo ts k)
  | 0, _ => by rw [endTo_zero]; rfl
  | k + 1, h => by
    have hk : k < ts.length := by omega
    have h1 := hp.inside k hk
    have h2 := hp.ahead k hk
    rw [wvTo_succ, wv_words hp k (by omega), gAt_gaps s ts k (by omega), if_pos (by rw [wordsOf_len]; exact hk), gAt_words s ts k hk, endTo_succ ts k hk]
    unfold gapK
    rw [dif_pos hk, extract_list, extract_list, take_glue _ h2, take_glue _ (by omega)]

/-- The gaps and the words of a text make the text. -/
theorem back_gaps {s : ByteArray} {ts : List (Nat × Nat)} {a : Nat} (h : ScanIs s ts a 0) : weaveR (gapsOf s ts) (wordsOf s ts) = (s.data.toList, 0) := by
  have hz := size_of h
  rcases h with ⟨_, _, _, h⟩ | ⟨_, _, _, h⟩ | ⟨_, _, _, _, _, h⟩ | ⟨_, hf, hl, rfl, _, _⟩
  · omega
  · omega
  · omega
  · have hp := parted s.data.toList
    have hL : s.data.toList.length = s.size := Array.length_toList
    generalize toks s.data.toList 0 = ts at hl hp
    have hlen : (gapsOf s ts).length = (wordsOf s ts).length + 1 := by rw [gapsOf_len, wordsOf_len]
    have hall : wvTo (gapsOf s ts) (wordsOf s ts) (gapsOf s ts).length = s.data.toList := by
      rw [gapsOf_len, wvTo_succ, wv_words hp _ (Nat.le_refl _), gAt_gaps s ts _ (Nat.le_refl _), if_neg (by rw [wordsOf_len]; omega), List.append_nil]
      unfold gapK
      rw [dif_neg (by omega), extract_list]
      have h1 : endTo ts ts.length ≤ s.size := by
        unfold endTo
        split
        · have := (hp.inside (ts.length - 1) (by omega)).2
          omega
        · omega
      rw [take_glue _ h1, List.take_of_length_le (by omega)]
    have hsz : szTo (gapsOf s ts) (wordsOf s ts) (gapsOf s ts).length = s.size := by rw [← wvTo_len, hall, hL]
    rw [weave_ok _ _ hlen ?_, hsz, hall, if_neg (by omega), if_neg (by rw [wordsOf_len]; omega)]
    intro k hk
    rw [gapsOf_len] at hk
    have hgs := gAt_gaps s ts k (by omega)
    by_cases hkt : k < ts.length
    · have h1 := hp.inside k hkt
      have h2 := hp.ahead k hkt
      have hgk : gapK s ts k = s.extract (endTo ts k) ts[k].1 := by unfold gapK; rw [dif_pos hkt]
      refine okI_yes _ _ k (gapB_of _ _ k hgs ?_ ?_) (.inr ?_)
      · rw [hgk]
        exact allB_ext fun j b hj1 hj2 hb => fine_gap hf hb (hp.gap k hkt j b hj1 hj2 hb)
      · rcases Nat.eq_zero_or_pos k with h0 | h0
        · exact .inr (.inl h0)
        · refine .inl (neB_pos ?_)
          have := hp.apart k hkt h0
          rw [hgk, ByteArray.size_extract]
          omega
      · rw [gAt_words s ts k hkt]
        unfold wordB
        rw [Bool.and_eq_true]
        refine ⟨allB_ext fun j b hj1 hj2 hb => hp.pr k hkt j b hj1 hj2 hb, neB_pos ?_⟩
        rw [ByteArray.size_extract]
        omega
    · obtain rfl : k = ts.length := by omega
      refine okI_yes _ _ _ (gapB_of _ _ _ hgs ?_ (.inr (.inr (by rw [wordsOf_len]; omega)))) (.inl (by rw [wordsOf_len]; omega))
      unfold gapK
      rw [dif_neg hkt]
      exact allB_ext fun j b hj1 hj2 hb => fine_gap hf hb (hp.rest j b hj1 hb)

/-- Gaps and words from the front. -/
def glue : List ByteArray → List ByteArray → List UInt8
  | g :: gs, w :: ws => g.data.toList ++ (w.data.toList ++ glue gs ws)
  | g :: _, [] => g.data.toList
  | [], _ => []
theorem wv_cons (g w : ByteArray) (gs ws : List ByteArray) : ∀ k, wvTo (g :: gs) (w :: ws) (k + 1) = g.data.toList ++ (w.data.toList ++ wvTo gs ws k)
  | 0 => by simp [wvTo, gAt]
  | k + 1 => by
    have e1 : gAt (g :: gs) (k + 1) = gAt gs k := rfl
    have e2 : gAt (w :: ws) (k + 1) = gAt ws k := rfl
    rw [wvTo_succ, wv_cons g w gs ws k, wvTo_succ gs ws k, e1, e2]
    by_cases h : k < ws.length
    · rw [if_pos h, if_pos (by rw [List.length_cons]; omega)]
      simp only [List.append_assoc]
    · rw [if_neg h, if_neg (by rw [List.length_cons]; omega)]
      simp only [List.append_assoc]
theorem wv_glue : ∀ (gs ws : List ByteArray), gs.length = ws.length + 1 → wvTo gs ws gs.length = glue gs ws
  | [], ws, h => by simp at h
  | [g], [], _ => by simp [wvTo, glue, gAt]
  | _ :: _ :: _, [], h => by simp at h
  | g :: gs, w :: ws, h => by
    rw [List.length_cons, wv_cons, wv_glue gs ws (by simpa using h)]
    rfl

/-- Gaps of spaces, inner ones not empty, and words. -/
def Fit : Bool → List ByteArray → List ByteArray → Prop
  | f, g :: gs, w :: ws => allB spB g = true ∧ (f = true ∨ neB g = true) ∧ wordB w = true ∧ Fit false gs ws
  | _, g :: _, [] => allB spB g = true
  | _, [], _ => True
theorem fit_of : ∀ (gs ws : List ByteArray) (f : Bool), gs.length = ws.length + 1 →
    (∀ j, j < gs.length → allB spB (gAt gs j) = true ∧ (j < ws.length → ((f = true ∧ j = 0) ∨ neB (gAt gs j) = true) ∧ wordB (gAt ws j) = true)) → Fit f gs ws
  | [], _, _, _, _ => by unfold Fit; trivial
  | g :: gs, [], f, _, h => by
    have := (h 0 (by simp)).1
    cases f <;> exact this
  | g :: gs, w :: ws, f, hl, h => by
    have h0 := h 0 (by simp)
    have h1 := h0.2 (by simp)
    refine ⟨h0.1, h1.1.imp (fun x => x.1) id, h1.2, fit_of gs ws false (by simpa using hl) fun j hj => ?_⟩
    have hj1 := h (j + 1) (by simpa using hj)
    refine ⟨hj1.1, fun hjw => ?_⟩
    have := hj1.2 (by simpa using hjw)
    exact ⟨.inr (this.1.resolve_left fun x => by omega), this.2⟩

def sub (L : List UInt8) (p : Nat × Nat) : List UInt8 := (L.drop p.1).take (p.2 - p.1)
def wds (L : List UInt8) : List (List UInt8) := (toks L 0).map (sub L)
theorem sub_shift (P R : List UInt8) (ts : List (Nat × Nat)) : (ts.map (shift P.length)).map (sub (P ++ R)) = ts.map (sub R) := by
  rw [List.map_map]
  apply List.map_congr_left
  intro p _
  show sub (P ++ R) (shift P.length p) = sub R p
  unfold sub shift
  simp only
  rw [List.drop_append, List.drop_eq_nil_of_le (by omega), List.nil_append, show p.1 + P.length - P.length = p.1 from by omega, show p.2 + P.length - (p.1 + P.length) = p.2 - p.1 from by omega]
theorem wds_nil : wds [] = [] := by unfold wds; rw [toks_end (by simp)]; rfl
theorem wds_gap (b : UInt8) (L : List UInt8) (hb : prB b = false) : wds (b :: L) = wds L := by
  unfold wds
  rw [toks_gap (b := b) (by simp) hb]
  have h := toks_right [b] L 0
  have h2 := sub_shift [b] L (toks L 0)
  simp only [List.singleton_append, List.length_singleton, Nat.add_zero] at h h2
  rw [Nat.zero_add, h, h2]
theorem wds_gaps (R : List UInt8) : ∀ (G : List UInt8), (∀ b ∈ G, prB b = false) → wds (G ++ R) = wds R
  | [], _ => rfl
  | b :: G, h => by rw [List.cons_append, wds_gap b _ (h b (by simp)), wds_gaps R G fun x hx => h x (by simp [hx])]
theorem wds_word (W R : List UInt8) (hW : 0 < W.length) (hp : ∀ b ∈ W, prB b = true) (hR : ∀ b, R[0]? = some b → prB b = false) : wds (W ++ R) = W :: wds R := by
  have he : endOf (W ++ R) 0 = W.length := by
    refine endOf_eq W.length 0 W.length (by omega) (fun j b _ hj hb => ?_) (by rw [List.length_append]; omega) (fun b hb => ?_)
    · rw [List.getElem?_append_left hj] at hb
      exact hp b (List.mem_of_getElem? hb)
    · rw [List.getElem?_append_right (Nat.le_refl _), Nat.sub_self] at hb
      exact hR b hb
  unfold wds
  have h0 : (W ++ R)[0]? = some W[0] := by rw [List.getElem?_append_left hW]; exact List.getElem?_eq_getElem hW
  rw [toks_word h0 (hp _ (List.getElem_mem hW)), he]
  have h := toks_right W R 0
  rw [Nat.add_zero] at h
  rw [h, List.map_cons, sub_shift]
  congr 1
  unfold sub
  simp

theorem all_sp {g : ByteArray} (h : allB spB g = true) : ∀ b ∈ g.data.toList, spB b = true := by
  unfold allB at h
  exact List.all_eq_true.1 h
theorem word_pr {w : ByteArray} (h : wordB w = true) : ∀ b ∈ w.data.toList, prB b = true := by
  unfold wordB at h
  rw [Bool.and_eq_true] at h
  unfold allB at h
  exact List.all_eq_true.1 h.1
theorem ne_len {w : ByteArray} (h : neB w = true) : 0 < w.data.toList.length := by
  have h1 := neB_true h
  rw [ByteArray.toList_eq] at h1
  exact List.length_pos_iff.2 h1
theorem word_len {w : ByteArray} (h : wordB w = true) : 0 < w.data.toList.length := by
  unfold wordB at h
  rw [Bool.and_eq_true] at h
  exact ne_len h.2

theorem glue_head : ∀ (gs ws : List ByteArray), Fit false gs ws → ∀ b, (glue gs ws)[0]? = some b → prB b = false
  | [], _, _, b, hb => by simp [glue] at hb
  | g :: _, [], h, b, hb => sp_not_pr (all_sp h b (List.mem_of_getElem? hb))
  | g :: gs, w :: ws, h, b, hb => by
    have h2 := h.2.1.resolve_left (by simp)
    unfold glue at hb
    rw [List.getElem?_append_left (ne_len h2)] at hb
    exact sp_not_pr (all_sp h.1 b (List.mem_of_getElem? hb))
theorem wds_glue : ∀ (ws gs : List ByteArray) (f : Bool), gs.length = ws.length + 1 → Fit f gs ws → wds (glue gs ws) = ws.map fun w => w.data.toList
  | _, [], _, hl, _ => by simp at hl
  | [], g :: gs, f, hl, h => by
    have h' : allB spB g = true := by cases f <;> exact h
    have := wds_gaps [] g.data.toList fun b hb => sp_not_pr (all_sp h' b hb)
    rw [List.append_nil, wds_nil] at this
    exact this
  | w :: ws, g :: gs, f, hl, h => by
    unfold glue
    rw [wds_gaps _ _ fun b hb => sp_not_pr (all_sp h.1 b hb), wds_word _ _ (word_len h.2.2.1) (word_pr h.2.2.1) (glue_head gs ws h.2.2.2), wds_glue ws gs false (by simpa using hl) h.2.2.2]
    rfl
theorem glue_fine : ∀ (ws gs : List ByteArray) (f : Bool), Fit f gs ws → ∀ b ∈ glue gs ws, cls b.toNat ≠ 0
  | _, [], _, _, b, hb => by simp [glue] at hb
  | [], g :: gs, f, h, b, hb => by
    have h' : allB spB g = true := by cases f <;> exact h
    have := all_sp h' b hb
    have h1 := cls_one b.toNat
    unfold spB at this
    rw [decide_eq_true_iff] at this
    rw [h1.2 this]
    omega
  | w :: ws, g :: gs, f, h, b, hb => by
    unfold glue at hb
    rcases List.mem_append.1 hb with hb | hb
    · have := all_sp h.1 b hb
      have h1 := cls_one b.toNat
      unfold spB at this
      rw [decide_eq_true_iff] at this
      rw [h1.2 this]
      omega
    · rcases List.mem_append.1 hb with hb | hb
      · have := word_pr h.2.2.1 b hb
        have h0 := cls_zero b.toNat
        unfold prB at this
        rw [decide_eq_true_iff] at this
        exact fun hc => (h0.1 hc).1 this
      · exact glue_fine ws gs false h.2.2.2 b hb

/-- What is woven has the given words. -/
theorem weave_scan {gs ws : List ByteArray} {t : ByteArray} {ts : List (Nat × Nat)} {a er : Nat} (hm : ws.length ≤ 8000) (h0 : (weaveR gs ws).2 = 0) (ht : t.data.toList = (weaveR gs ws).1) (hs : ScanIs t ts a er) : er = 0 ∧ wordsOf t ts = ws := by
  have hlen : gs.length = ws.length + 1 := by
    apply Classical.byContradiction
    intro hc
    rw [weave_len _ _ hc] at h0
    simp at h0
  have hok : ∀ k, k < gs.length → okI gs ws k = true := fun k hk => by
    cases hb : okI gs ws k
    · rw [weave_bad gs ws hlen k hk hb] at h0
      simp at h0
    · rfl
  rw [weave_ok gs ws hlen hok] at h0 ht
  have hsz : ¬ 40000 < szTo gs ws gs.length := fun hc => by rw [if_pos hc] at h0; simp at h0
  rw [if_neg hsz, if_neg (by omega)] at ht
  rw [← wvTo_len] at hsz
  simp only at ht
  rw [wv_glue gs ws hlen] at ht hsz
  have hfit : Fit true gs ws := by
    refine fit_of gs ws true hlen fun j hj => ?_
    have h1 := hok j hj
    unfold okI gapB at h1
    rw [Bool.and_eq_true, Bool.and_eq_true] at h1
    obtain ⟨⟨h1, h2⟩, h3⟩ := h1
    refine ⟨h1, fun hjw => ⟨?_, ?_⟩⟩
    · rcases Nat.eq_zero_or_pos j with hj0 | hj0
      · exact .inl ⟨rfl, hj0⟩
      · rw [decide_eq_true (show 0 < j ∧ j < ws.length from ⟨hj0, hjw⟩)] at h2
        exact .inr (by simpa using h2)
    · rw [decide_eq_false (by omega)] at h3
      simpa using h3
  have hw := wds_glue ws gs true hlen hfit
  have hfi := glue_fine ws gs true hfit
  rw [← ht] at hw hfi hsz
  have hL : t.data.toList.length = t.size := Array.length_toList
  have hfine : fine t t.size := fun j hj _ => hfi _ (by
    rw [show t[j] = t.data.toList[j]'(by omega) from rfl]
    exact List.getElem_mem _)
  have htl : (toks t.data.toList 0).length = ws.length := by
    have := congrArg List.length hw
    unfold wds at this
    simpa using this
  rcases hs with ⟨h, _⟩ | ⟨_, h, _⟩ | ⟨_, _, h, _⟩ | ⟨_, _, _, rfl, _, h⟩
  · omega
  · exact (bad_not_fine h hfine).elim
  · omega
  · refine ⟨h, ?_⟩
    have hinj : ∀ x y : ByteArray, x.data.toList = y.data.toList → x = y := fun _ _ => bytes_ext
    apply (List.map_inj_right (f := fun w : ByteArray => w.data.toList) hinj).1
    rw [← hw]
    unfold wordsOf wds
    rw [List.map_map]
    apply List.map_congr_left
    intro p _
    exact extract_list t p.1 p.2
end Go.Proofs.Ytflfeimmdpjbeaa.Tok
