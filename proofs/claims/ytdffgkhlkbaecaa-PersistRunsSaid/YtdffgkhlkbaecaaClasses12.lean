/- Contract of Classes: the classes of the roots, in the order of their first numbers. -/
import Derived.Test.YtdffgkhlkbaecaaLists
import Derived.Maps.OwnSet
namespace Go.Proofs.Ytdffgkhlkbaecaa.Tok
open Go.RowKit Go.Proofs.Ytdffgkhlkbaecaa Go.Maps

theorem infoSl12 : (Try.prog.info? 36).map (fun i => (i.zero, i.size, i.bytes)) = some (some (.slice none 0 0), 1, 24) := by kernel_rfl
theorem infoIn12 : (Try.prog.info? 3).map (fun i => (i.zero, i.size, i.bytes)) = some (some (.int .i64 0), 1, 8) := by kernel_rfl
theorem keyInt12 : Keyed Try.prog 3 := int_keyed Try.underlying3
theorem zeroInt12 (w : World) : (zeroValue 3).run Try.prog w = .ok (.int .i64 0) w := by kernel_rfl
section
variable {base : Nat} {w w1 : World} {v : Value} {vs : List Value} {L : List (List Nat)} {H : Type} {K : TypeId} {R : Value → Option (DataW H × List MemPlace)} {D : DataW H} {B kk : Nat}
theorem map_apart (hm : w.ownsMap Try.prog K R B kk D) {b e z n : Nat} {x : Value} {xs : List Value} (ho : w.ownsRow b e z x n xs) : some B ≠ x.ownBlock := by
  obtain ⟨es, clock, hb, _⟩ := hm
  intro e1
  rcases ho.2 with ⟨rfl, _⟩ | ⟨g, cap, cur, rfl, _, h1, _⟩
  · cases e1
  · injection e1 with e1
    subst e1
    rw [hb] at h1
    cases h1
theorem Lists.mapped (h : Lists base w v vs L) (hm : w.ownsMap Try.prog K R B kk D) (hg : w.grownBy w1 (some B)) : Lists base w1 v vs L :=
  h.keep fun i hi ⟨cs, t, fr, hc⟩ => hg.block i hi (by
    intro e
    injection e with e
    subst e
    obtain ⟨es, clock, hb, _⟩ := hm
    rw [hc] at hb
    cases hb)
/-- One number is put into one of the lists. -/
theorem Lists.round {b n c : Nat} (h : Lists base w (.slice (some ⟨b, 0, Option.none⟩) n c) vs L) (hm : w.ownsMap Try.prog K R B kk D) (hz : base ≤ w.heap.size) {i g m cap : Nat} {x : Value} {l : List Nat} {a : Nat} (hx : vs[i]? = some x) (hl : L[i]? = some l)
    (hg : w.grownBy w1 x.ownBlock) (hml : m = l.length + 1) (ho : w1.ownsRow base 3 1 (.slice (some ⟨g, 0, Option.none⟩) m cap) m (nats l ++ [.int .i64 (a : Nat)])) (hat : x.ownBlock = some g ∨ w.heap.size ≤ g) :
    w1.cell? ⟨b, i, Option.none⟩ = some x ∧ w1.frozen? ⟨b, i, Option.none⟩ = false ∧
    Hid (∃ vs', Lists base (w1.setCell ⟨b, i, Option.none⟩ (.slice (some ⟨g, 0, Option.none⟩) m cap)) (.slice (some ⟨b, 0, Option.none⟩) n c) vs' (L.set i (l ++ [a]))) ∧
    Hid ((w1.setCell ⟨b, i, Option.none⟩ (.slice (some ⟨g, 0, Option.none⟩) m cap)).ownsMap Try.prog K R B kk D) ∧ Hid (Below base w (w1.setCell ⟨b, i, Option.none⟩ (.slice (some ⟨g, 0, Option.none⟩) m cap))) := by
  have hi := (List.getElem?_eq_some_iff.1 hx).1
  have hin := h.ins i x l hx hl
  have hn : n = L.length := by
    rcases h.out.2 with ⟨h1, _⟩ | ⟨g', cap', cur', h1, _⟩
    · cases h1
    · injection h1
  have hout := h.out
  rw [← hn] at hout
  have hb := hout.lt b rfl
  have hbx : some b ≠ x.ownBlock := by
    rcases own_types hout hin (by decide) with h1 | h1
    · cases h1
    · exact h1
  have hlen := h.len
  have hj : i < n * 1 := by omega
  refine ⟨?_, ?_, ⟨_, h.put hx hl hg (l' := l ++ [a]) (by
      have hl1 : (l ++ [a]).length = m := by simp [hml]
      rw [hl1, ← nats_snoc]
      exact ho) hat⟩, ?_, ?_⟩
  · rw [hg.cell_far ⟨b, i, Option.none⟩ hb.2 hbx, hout.cellAt i hj]
    exact hx
  · rw [hg.frozen_far ⟨b, i, Option.none⟩ hb.2 hbx]
    exact hout.frozenAt i
  · have h1 := hm.kept hg (map_apart hm hin)
    refine h1.setCell ?_ _
    intro e
    have := map_apart hm hout
    exact this (by rw [e]; rfl)
  · exact ((Below.refl base w).grown hg hz (fun q hq => (hin.lt q hq).1)).setCell hb.1 _
theorem Lists.roundA {b n c : Nat} {o : Obj} (h : Lists base w (.slice (some ⟨b, 0, Option.none⟩) n c) vs L) (hm : w.ownsMap Try.prog K R B kk D) (hz : base ≤ w.heap.size) {i g m cap : Nat} {x : Value} {l : List Nat} {a : Nat} (hx : vs[i]? = some x) (hl : L[i]? = some l)
    (hg : (w.alloc o).grownBy w1 x.ownBlock) (hml : m = l.length + 1) (ho : w1.ownsRow base 3 1 (.slice (some ⟨g, 0, Option.none⟩) m cap) m (nats l ++ [.int .i64 (a : Nat)])) (hat : x.ownBlock = some g ∨ g = w.heap.size + 1) :
    w1.cell? ⟨b, i, Option.none⟩ = some x ∧ w1.frozen? ⟨b, i, Option.none⟩ = false ∧
    Hid (∃ vs', Lists base (w1.setCell ⟨b, i, Option.none⟩ (.slice (some ⟨g, 0, Option.none⟩) m cap)) (.slice (some ⟨b, 0, Option.none⟩) n c) vs' (L.set i (l ++ [a]))) ∧
    Hid ((w1.setCell ⟨b, i, Option.none⟩ (.slice (some ⟨g, 0, Option.none⟩) m cap)).ownsMap Try.prog K R B kk D) ∧ Hid (Below base w (w1.setCell ⟨b, i, Option.none⟩ (.slice (some ⟨g, 0, Option.none⟩) m cap))) :=
  h.round hm hz hx hl ((World.grownBy_alloc w o _).trans hg) hml ho (hat.imp id fun e => by omega)
theorem Lists.moreA {A : Option Addr} {n c g cap : Nat} {o : Obj} (h : Lists base w (.slice A n c) vs L) (hm : w.ownsMap Try.prog K R B kk D) (hz : base ≤ w.heap.size) (hn : n = L.length) (hg : (w.alloc o).grownBy w1 (Value.slice A n c).ownBlock)
    (ho : w1.ownsRow base 36 1 (.slice (some ⟨g, 0, Option.none⟩) (n + 1) cap) (n + 1) (vs ++ [.slice Option.none 0 0])) :
    Hid (Lists base w1 (.slice (some ⟨g, 0, Option.none⟩) (n + 1) cap) (vs ++ [.slice Option.none 0 0]) (L ++ [[]])) ∧ Hid (w1.ownsMap Try.prog K R B kk D) ∧ Hid (Below base w w1) ∧ base ≤ w1.heap.size ∧
    w1.cell? ⟨g, n, Option.none⟩ = some (.slice Option.none 0 0) ∧ (vs ++ [.slice Option.none 0 0])[n]? = some (.slice Option.none 0 0) ∧ (L ++ [[]])[n]? = some [] := by
  have hg' := (World.grownBy_alloc w o (Value.slice A n c).ownBlock).trans hg
  subst hn
  have hl := h.len
  have e1 : (vs ++ [Value.slice Option.none 0 0])[L.length]? = some (.slice Option.none 0 0) := by
    rw [List.getElem?_append_right (by omega), hl, Nat.sub_self]
    rfl
  refine ⟨h.more hg' ho, hm.kept hg' (map_apart hm h.out), (Below.refl base w).grown hg' hz (fun q hq => (h.out.lt q hq).1), by have := hg'.size; omega, (ho.cellAt L.length (by omega)).trans e1, e1, by simp⟩
end
end Go.Proofs.Ytdffgkhlkbaecaa.Tok
