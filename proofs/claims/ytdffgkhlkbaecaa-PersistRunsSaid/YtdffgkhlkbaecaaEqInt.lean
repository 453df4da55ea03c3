/- slices.Equal of two equal lists of numbers. -/
import Derived.Test.YtdffgkhlkbaecaaSets
namespace Go.Proofs.Ytdffgkhlkbaecaa.Tok
open Go.RowKit Go.Proofs.Ytdffgkhlkbaecaa

end Go.Proofs.Ytdffgkhlkbaecaa.Tok
