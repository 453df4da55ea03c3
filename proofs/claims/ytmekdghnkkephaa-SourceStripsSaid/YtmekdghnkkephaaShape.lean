/- The package variable that the library's search reads holds some number in every world that has the program's shape. -/
import Derived.Test.YtmekdghnkkephaaStrip
import Derived.Shelf.Vars
namespace Go.Proofs.Ytmekdghnkkephaa.Tok
open Go.RowKit Go.Proofs.Ytmekdghnkkephaa

theorem hasMax_of {w : World} (h : w.ShapedOpen Try.prog) : HasMax w :=
  Go.Proofs.cell_of_shapedOpen_int (zero := #[.int .i64 0]) (t := 3) h (of_decide_eq_true (by kernel_rfl)) (by kernel_rfl) rfl (by kernel_rfl) (by kernel_rfl) Try.underlying3
end Go.Proofs.Ytmekdghnkkephaa.Tok
