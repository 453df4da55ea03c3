/- Contract of compress.Items. -/
import Derived.Test.YtjdomdeejibnmaaItemMath
import Derived.Test.YtjdomdeejibnmaaAppend
namespace Go.Proofs.Ytjdomdeejibnmaa.Tok
open Go.RowKit Go.Proofs.Ytjdomdeejibnmaa

def ItemsGood (hs : List HypT) (lb : List ByteArray) (l : List Int) (T : TypeId) (w : World) (e : Ending) (w' : World) : Prop :=
  ∃ A c, e = .returned (.tuple #[.slice A (itemsF hs lb l).1.length c, .int .i64 ((itemsF hs lb l).2 : Nat)]) ∧
    w'.ownsRow w.heap.size T 4 (.slice A (itemsF hs lb l).1.length c) (itemsF hs lb l).1.length (itmC (itemsF hs lb l).1) ∧ Below w.heap.size w w'
theorem ItemsGood.err {hs : List HypT} {lb : List ByteArray} {l : List Int} {T : TypeId} {w w' : World} {er : Nat} (h : itemsF hs lb l = ([], er)) (hb : Below w.heap.size w w') :
    ItemsGood hs lb l T w (.returned (.tuple #[.slice none 0 0, .int .i64 (er : Nat)])) w' := by
  refine ⟨none, 0, by rw [h]; rfl, ?_, hb⟩
  rw [h]
  exact World.ownsRow_nil _ _ _ _
theorem infoInt' : (Try.prog.info? 3).map (fun i => (i.zero, i.size, i.bytes)) = some (some (.int .i64 0), 1, 8) := by kernel_rfl
theorem own_base' {w : World} {base base' : Nat} {e : TypeId} {size n : Nat} {v : Value} {xs : List Value} (h : w.ownsRow base e size v n xs) (hb : base' ≤ base) : w.ownsRow base' e size v n xs :=
  ⟨h.1, h.2.imp id fun ⟨g, cap, cur, a, b, c⟩ => ⟨g, cap, cur, a, by omega, c⟩⟩
/-- A whole row loaded under a guard that is met. -/
theorem wpList_load_row_g {P : Program} {ops : Array Oper} {rest : List Oper} {o : Oper} {a : Act} {w : World} {Q : Exit → Act → World → Prop} (hw : Region.wanted o (yielded ops a.tmps) = true) (ty : TypeId) (x : Operand) (ho : o.op = .load ty x)
    (g : Nat) (hx : a.eval x = .pointer (some ⟨g, 0, none⟩)) (t : TypeId) (cs : Array Value) (fr : Nat × Nat) (d : TypeDesc) (hg : w.heap[g]? = some (.cells cs t fr))
    (hu : P.underlying ty = some d) (hd : (match d with | .struct _ | .array _ _ => true | _ => false) = true) (hi : (P.info? ty).map (·.size) = some cs.size)
    (h : wpList P ops Q rest (a.put o.dst (.agg cs)) w) : wpList P ops Q (o :: rest) a w :=
  wpList_step fun K hK => by
    rw [if_pos hw]
    exact wp_load_row ty x ho g hx t cs fr d hg hu hd hi (hK _ _ h)

end Go.Proofs.Ytjdomdeejibnmaa.Tok
