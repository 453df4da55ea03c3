/- The contract of the program's Keywords. -/
import Derived.Test.YtflfeimmdpjbeaaKeyWalks
import Derived.Laws.IdiomStrings
namespace Go.Proofs.Ytflfeimmdpjbeaa.Tok
open Go.RowKit Go.Proofs.Ytflfeimmdpjbeaa

def kwSs : List ByteArray := (List.range 15).map kwS
theorem kwL_eq : kwL = kwSs.map Value.string := by
  unfold kwL kwSs
  rw [List.map_map]
  rfl
def kwT (k : Nat) : List Value := (List.range k).map fun k => Value.string (kwS k)
theorem kwT_succ (k : Nat) : kwT (k + 1) = kwT k ++ [.string (kwS k)] := by
  unfold kwT
  rw [List.range_succ, List.map_append]
  rfl

theorem one_new2 (w : World) (o : Obj) (t : TypeId) (a : Value) {j : Nat} {u : Value} (h : [a][j]? = some u) : ((w.alloc o).alloc (.cells #[a] t)).cell? ((⟨w.heap.size + 1, 0, none⟩ : Addr).add j) = some u := by
  rw [add_zero_block, cell_of_row _ _ _ _ _ _ (heap_alloc2_new w _ _)]
  simpa using h

theorem kwConv (k : Nat) (hk : k < 15) (w : World) : (convert 111 9 (.slice (some ⟨w.heap.size, 0, none⟩) 2 2)).run Try.prog (w.alloc (.cells #[.int .u8 36, .int .u8 (kwN k : Nat)] 110)) =
    .ok (.string (kwS k)) (w.alloc (.cells #[.int .u8 36, .int .u8 (kwN k : Nat)] 110)) := by
  refine run_convert_bytes_back _ _ _ 5 ⟨w.heap.size, 0, none⟩ 2 [36, UInt8.ofNat (kwN k)] Try.underlying111 Try.underlying5 Try.underlying9 ?_
  intro j hj
  have hb : (UInt8.ofNat (kwN k)).toNat = kwN k := by have := kwN_lt k hk; simp; omega
  rw [add_zero_block, cell_of_row _ _ _ _ _ _ (heap_alloc_new w _)]
  match j, hj with
  | 0, _ => rfl
  | 1, _ => simp [hb]

set_option maxHeartbeats 800000 in
set_option maxRecDepth 4000 in
theorem Keywords_any (w : World) :
    Calls Try.prog 32 #[] w fun e w' => ∃ v, e = .returned v ∧ w'.ownsRow w.heap.size 9 1 v 15 kwL ∧ Below w.heap.size w w' := by
  obtain ⟨i0, hi0, hz0, hz1, hz2⟩ := info_parts infoStr
  go_enter Try.func32, Try.ntmps32
  go_wp2_with (go_at_call 66; refine (keywords_any _).mono ?_; rintro e w1 ⟨rfl, hb1⟩)
  have hs1 : w.heap.size ≤ w1.heap.size := hb1.size
  go_loopw [1, 5] (fun v i wr => ∃ k : Nat, k ≤ 15 ∧ i = .int .i64 k ∧ wr.ownsRow w.heap.size 9 1 v k (kwT k) ∧ Below w.heap.size w wr ∧ w.heap.size ≤ wr.heap.size) (fun _ i _ => 15 - (intOf i).toNat)
  case atStart => exact ⟨0, by omega, rfl, World.ownsRow_nil _ _ _ _, hb1, hs1⟩
  case round =>
    obtain ⟨k, hk, rfl, hown, hbw, hsz⟩ := hrel
    by_cases hlt : k < 15
    · have hix := kwIndex k hlt
      have hcv := kwConv k hlt wr
      have hsu := Lib.hid (kwT_succ k)
      obtain ⟨z, hz⟩ : ∃ z, z = kwN k := ⟨_, rfl⟩
      rw [← hz] at hix hcv
      obtain ⟨ks, hks⟩ : ∃ ks, ks = kwS k := ⟨_, rfl⟩
      rw [← hks] at hcv
      have Hks := Lib.hid hks
      clear hz hks
      obtain ⟨A1, c1, rfl⟩ := own_slice hown
      have h63 : k + 1 ≤ maxLen := by simp only [maxLen]; omega
      have hby : (k + 1) * 16 ≤ 140737488355328 := by omega
      have hbs2 : ∀ o o', w.heap.size ≤ ((wr.alloc o).alloc o').heap.size := fun o o' => by simp; omega
      go_wp2_with (at_builtin; go_must (refine wpList_append_own _ rfl (.tmp 8) (.tmp 11) 31 rfl w.heap.size 9 i0 (.string ⟨#[]⟩) 1 16 Try.underlying31 hi0 hz0 hz1 hz2 rfl (by decide) _ _ _ rfl ((hown.alloc _).alloc _) ⟨wr.heap.size + 1, 0, none⟩ 1 1 [.string ks] rfl rfl (fun j u hu => one_new2 wr _ _ _ hu) (one_str _) h63 hby (hbs2 _ _) ?_); intro v2 w2 hown2 hgrow2 _)
      go_light
      have hsz2 := hgrow2.size
      have hal : ((wr.alloc (.cells #[.int .u8 36, .int .u8 (z : Nat)] 110)).alloc (.cells #[.string ks] 9)).heap.size = wr.heap.size + 2 := by simp
      refine ⟨⟨k + 1, by omega, by go_num, ?_, ((hbw.alloc hsz _).alloc (by simp; omega) _).grown hgrow2 (by omega) (fun j hj => (hown.lt j hj).1), by omega⟩, by simp [intOf]; omega⟩
      rw [hsu.out, ← Hks.out]
      exact hown2
    · obtain rfl : k = 15 := by omega
      have Hown := Lib.hid hown
      clear hown
      go_wp2
      go_ret
      exact ⟨_, rfl, Hown.out, hbw⟩
end Go.Proofs.Ytflfeimmdpjbeaa.Tok
