/- What Read tells of some words is one answer only. -/
import Derived.Test.YtjdomdeejibnmaaRead8
namespace Go.Proofs.Ytjdomdeejibnmaa.Tok
open Go.RowKit Go.Proofs.Ytjdomdeejibnmaa

theorem DivIs.none_some {ss : List ByteArray} {p : List ByteArray × List UInt8} (h : DivIs ss none) (h' : DivIs ss (some p)) : False := by
  obtain ⟨hb, k, _, hf, hl, _⟩ := h'
  rcases h with h | h | ⟨k2, _, hf2, hl2⟩
  · rw [hb] at h
    cases h
  · exact h hf.mem
  · obtain rfl := hf.unique hf2
    exact hl2 hl
theorem DivIs.same {ss : List ByteArray} {p p' : List ByteArray × List UInt8} (h : DivIs ss (some p)) (h' : DivIs ss (some p')) : p = p' := by
  obtain ⟨_, k, _, hf, _, h1, h2⟩ := h
  obtain ⟨_, k', _, hf', _, h1', h2'⟩ := h'
  obtain rfl := hf.unique hf'
  exact Prod.ext (h1.trans h1'.symm) (h2.trans h2'.symm)
theorem RdIs.same {ss ls ls' : List ByteArray} {o o' : List Int} {er er' : Nat} (h : RdIs ss ls o er) (h' : RdIs ss ls' o' er') : ls = ls' ∧ o = o' ∧ er = er' := by
  rcases h with ⟨hd, rfl, rfl, rfl⟩ | ⟨l, bs, hd, h⟩
  · rcases h' with ⟨_, rfl, rfl, rfl⟩ | ⟨_, _, hd', _⟩
    · exact ⟨rfl, rfl, rfl⟩
    · exact (hd.none_some hd').elim
  · rcases h' with ⟨hd', _⟩ | ⟨l', bs', hd', h'⟩
    · exact (hd'.none_some hd).elim
    · have e := hd.same hd'
      injection e with e1 e2
      subst e1 e2
      rcases h with ⟨g, rfl, rfl, rfl⟩ | ⟨g, ⟨_, _, hn, rfl, rfl, rfl⟩ | ⟨hn, rfl, rfl⟩⟩
      · rcases h' with ⟨_, rfl, rfl, rfl⟩ | ⟨g', _⟩
        · exact ⟨rfl, rfl, rfl⟩
        · omega
      · rcases h' with ⟨g', _⟩ | ⟨_, ⟨_, _, _, rfl, rfl, rfl⟩ | ⟨hn', _, _⟩⟩
        · omega
        · exact ⟨rfl, rfl, rfl⟩
        · rw [hn] at hn'
          injection hn' with _ hn'
          cases hn'
      · rcases h' with ⟨g', _⟩ | ⟨_, ⟨_, _, hn', _⟩ | ⟨hn', rfl, rfl⟩⟩
        · omega
        · rw [hn] at hn'
          injection hn' with _ hn'
          cases hn'
        · rw [hn] at hn'
          injection hn' with hn'
          exact ⟨rfl, hn', rfl⟩
end Go.Proofs.Ytjdomdeejibnmaa.Tok
