/- The reference's sets: NewSets, Find. -/
import Derived.Test.YtdffgkhlkbaecaaBoth
import Derived.Test.YtdffgkhlkbaecaaTreeOps
import Derived.Test.YtdffgkhlkbaecaaTreeJoinT
namespace Go.Proofs.Ytdffgkhlkbaecaa.Tok
open Go.RowKit Go.Proofs.Ytdffgkhlkbaecaa

theorem one_rs (A B : Option Addr) (n c p d : Nat) : (#[Value.slice A n c, .slice B p d].all (·.oneCell')) = true := by simp [Value.oneCell']
end Go.Proofs.Ytdffgkhlkbaecaa.Tok
