/-
  NARROWER THAN 'FOR EVERY INPUT', by the rows' own cells (each row's printed sentence says how): SourceReads: maps · SourceOnce: maps.
  DERIVED. THE GIVEN ROWS OF THIS SEAT. 12 by the template 'for every input the law returns true; each argument reads behind the call as it read before'; 0 by the template 'total and deterministic' (their statements: YtflfeimmdpjbeaaTotals.lean).
  GIVEN WITH THE SEED: the statements are not yours to turn. If you find one false, say at which input.
  Laid BY PROGRAM, IN A SANDBOX (cutbox-rows.mjs): the forced cells as the released guide's own fill.sh prints them over the translation 28969ce3f8554828… (all of the seat's roots in one cut). By AI agents, Wed Nov 11 2026. No macro, syntax, notation, axiom, sorry.
-/
import Derived.Test.YtflfeimmdpjbeaaChecked
import GoSem.Claim
import GoSem.ClaimJoined
import GoSem.ClaimMapViews
import Derived.JoinedTies
import Derived.KernelRfl
namespace Go.Proofs.Ytflfeimmdpjbeaa
/- THE CELL 'sum', in the pinned program and in every row, IS THE sha256 OF THE DUMP (.gsa) THAT YtflfeimmdpjbeaaProg.lean LOADS. Nothing in Lean hashes anything: it is a label: what it is worth is what the hold of that sum in a sandbox is worth. -/
noncomputable def Try.pinned : Pinned := { name := "ytflfeimmdpjbeaa", sum := "28969ce3f85548286106deb8d3e2d9e2234098a695edf2e3b8d898d151fc7a32", checked := Try.checked }
namespace Rows
def none {H : Type} : Left H := { results := [], args := [] }

/-- 'apodixislaw01.TokenScans': WHATEVER THE INPUT: true; the input reads as it did. -/
def tokenScansSpec : ChangeSpec := { name := "tokenScans", fn := fun _ => fun
  | [d] => { results := [.lit (.bool true)], args := [d] }
  | _ => none }
def tokenScansRow : OpenClaim := { program := "ytflfeimmdpjbeaa", sum := "28969ce3f85548286106deb8d3e2d9e2234098a695edf2e3b8d898d151fc7a32", func := "apodixis/apodixislaw01.TokenScans", spec := "tokenScans", unfollowed := true, recurses := true, apart := false }
def TokenScansSaid : Prop := tokenScansRow.holds Try.pinned (OpenSpec.ofChange tokenScansSpec)

/-- ITS FALSE NEIGHBOUR: 'it returns false'. Refute it at one input. -/
def tokenScansWrong : ChangeSpec := { name := "tokenScans", fn := fun _ => fun
  | [d] => { results := [.lit (.bool false)], args := [d] }
  | _ => none }
def TokenScansWrongFalsely : Prop := tokenScansRow.holds Try.pinned (OpenSpec.ofChange tokenScansWrong)

/-- 'apodixislaw01.TokenKinds': WHATEVER THE INPUT: true; the input reads as it did. -/
def tokenKindsSpec : ChangeSpec := { name := "tokenKinds", fn := fun _ => fun
  | [d1, d2] => { results := [.lit (.bool true)], args := [d1, d2] }
  | _ => none }
def tokenKindsRow : OpenClaim := { program := "ytflfeimmdpjbeaa", sum := "28969ce3f85548286106deb8d3e2d9e2234098a695edf2e3b8d898d151fc7a32", func := "apodixis/apodixislaw01.TokenKinds", spec := "tokenKinds", unfollowed := true, recurses := true, apart := false }
def TokenKindsSaid : Prop := tokenKindsRow.holds Try.pinned (OpenSpec.ofChange tokenKindsSpec)

/-- ITS FALSE NEIGHBOUR: 'it returns false'. Refute it at one input. -/
def tokenKindsWrong : ChangeSpec := { name := "tokenKinds", fn := fun _ => fun
  | [d1, d2] => { results := [.lit (.bool false)], args := [d1, d2] }
  | _ => none }
def TokenKindsWrongFalsely : Prop := tokenKindsRow.holds Try.pinned (OpenSpec.ofChange tokenKindsWrong)

/-- 'apodixislaw01.TokenPositions': WHATEVER THE INPUT: true; the input reads as it did. -/
def tokenPositionsSpec : ChangeSpec := { name := "tokenPositions", fn := fun _ => fun
  | [d1, d2, d3] => { results := [.lit (.bool true)], args := [d1, d2, d3] }
  | _ => none }
def tokenPositionsRow : OpenClaim := { program := "ytflfeimmdpjbeaa", sum := "28969ce3f85548286106deb8d3e2d9e2234098a695edf2e3b8d898d151fc7a32", func := "apodixis/apodixislaw01.TokenPositions", spec := "tokenPositions", unfollowed := true, recurses := true, apart := false }
def TokenPositionsSaid : Prop := tokenPositionsRow.holds Try.pinned (OpenSpec.ofChange tokenPositionsSpec)

/-- ITS FALSE NEIGHBOUR: 'it returns false'. Refute it at one input. -/
def tokenPositionsWrong : ChangeSpec := { name := "tokenPositions", fn := fun _ => fun
  | [d1, d2, d3] => { results := [.lit (.bool false)], args := [d1, d2, d3] }
  | _ => none }
def TokenPositionsWrongFalsely : Prop := tokenPositionsRow.holds Try.pinned (OpenSpec.ofChange tokenPositionsWrong)

/-- 'apodixislaw01.TokenWeaves': WHATEVER THE INPUT: true; the input reads as it did. -/
def tokenWeavesSpec : ChangeSpec := { name := "tokenWeaves", fn := fun _ => fun
  | [d1, d2, d3] => { results := [.lit (.bool true)], args := [d1, d2, d3] }
  | _ => none }
def tokenWeavesRow : OpenClaim := { program := "ytflfeimmdpjbeaa", sum := "28969ce3f85548286106deb8d3e2d9e2234098a695edf2e3b8d898d151fc7a32", func := "apodixis/apodixislaw01.TokenWeaves", spec := "tokenWeaves", inPlace := ["internal/abi.NoEscape", "internal/bytealg.MakeNoZero"], unfollowed := true, recurses := true, apart := false }
def TokenWeavesSaid : Prop := tokenWeavesRow.holds Try.pinned (OpenSpec.ofChange tokenWeavesSpec)

/-- ITS FALSE NEIGHBOUR: 'it returns false'. Refute it at one input. -/
def tokenWeavesWrong : ChangeSpec := { name := "tokenWeaves", fn := fun _ => fun
  | [d1, d2, d3] => { results := [.lit (.bool false)], args := [d1, d2, d3] }
  | _ => none }
def TokenWeavesWrongFalsely : Prop := tokenWeavesRow.holds Try.pinned (OpenSpec.ofChange tokenWeavesWrong)

/-- 'apodixislaw01.TokenBack': WHATEVER THE INPUT: true; the input reads as it did. -/
def tokenBackSpec : ChangeSpec := { name := "tokenBack", fn := fun _ => fun
  | [d1, d2, d3] => { results := [.lit (.bool true)], args := [d1, d2, d3] }
  | _ => none }
def tokenBackRow : OpenClaim := { program := "ytflfeimmdpjbeaa", sum := "28969ce3f85548286106deb8d3e2d9e2234098a695edf2e3b8d898d151fc7a32", func := "apodixis/apodixislaw01.TokenBack", spec := "tokenBack", inPlace := ["internal/abi.NoEscape", "internal/bytealg.MakeNoZero"], unfollowed := true, recurses := true, apart := false }
def TokenBackSaid : Prop := tokenBackRow.holds Try.pinned (OpenSpec.ofChange tokenBackSpec)

/-- ITS FALSE NEIGHBOUR: 'it returns false'. Refute it at one input. -/
def tokenBackWrong : ChangeSpec := { name := "tokenBack", fn := fun _ => fun
  | [d1, d2, d3] => { results := [.lit (.bool false)], args := [d1, d2, d3] }
  | _ => none }
def TokenBackWrongFalsely : Prop := tokenBackRow.holds Try.pinned (OpenSpec.ofChange tokenBackWrong)

/-- 'apodixislaw01.TokenLocal': WHATEVER THE INPUT: true; the input reads as it did. -/
def tokenLocalSpec : ChangeSpec := { name := "tokenLocal", fn := fun _ => fun
  | [d1, d2, d3] => { results := [.lit (.bool true)], args := [d1, d2, d3] }
  | _ => none }
def tokenLocalRow : OpenClaim := { program := "ytflfeimmdpjbeaa", sum := "28969ce3f85548286106deb8d3e2d9e2234098a695edf2e3b8d898d151fc7a32", func := "apodixis/apodixislaw01.TokenLocal", spec := "tokenLocal", unfollowed := true, recurses := true, apart := false }
def TokenLocalSaid : Prop := tokenLocalRow.holds Try.pinned (OpenSpec.ofChange tokenLocalSpec)

/-- ITS FALSE NEIGHBOUR: 'it returns false'. Refute it at one input. -/
def tokenLocalWrong : ChangeSpec := { name := "tokenLocal", fn := fun _ => fun
  | [d1, d2, d3] => { results := [.lit (.bool false)], args := [d1, d2, d3] }
  | _ => none }
def TokenLocalWrongFalsely : Prop := tokenLocalRow.holds Try.pinned (OpenSpec.ofChange tokenLocalWrong)

/-- 'apodixislaw02.SourceStrips': WHATEVER THE INPUT: true; the input reads as it did. -/
def sourceStripsSpec : ChangeSpec := { name := "sourceStrips", fn := fun _ => fun
  | [d] => { results := [.lit (.bool true)], args := [d] }
  | _ => none }
def sourceStripsRow : OpenClaim := { program := "ytflfeimmdpjbeaa", sum := "28969ce3f85548286106deb8d3e2d9e2234098a695edf2e3b8d898d151fc7a32", func := "apodixis/apodixislaw02.SourceStrips", spec := "sourceStrips", inPlace := ["internal/bytealg.IndexByteString", "internal/bytealg.IndexString"], named := ["internal/bytealg.MaxLen"], apart := false }
def SourceStripsSaid : Prop := sourceStripsRow.holds Try.pinned (OpenSpec.ofChange sourceStripsSpec)

/-- ITS FALSE NEIGHBOUR: 'it returns false'. Refute it at one input. -/
def sourceStripsWrong : ChangeSpec := { name := "sourceStrips", fn := fun _ => fun
  | [d] => { results := [.lit (.bool false)], args := [d] }
  | _ => none }
def SourceStripsWrongFalsely : Prop := sourceStripsRow.holds Try.pinned (OpenSpec.ofChange sourceStripsWrong)

/-- 'apodixislaw02.SourceReads': WHATEVER THE INPUT: true; the input reads as it did. -/
def sourceReadsSpec : ChangeSpec := { name := "sourceReads", fn := fun _ => fun
  | [d1, d2, d3] => { results := [.lit (.bool true)], args := [d1, d2, d3] }
  | _ => none }
def sourceReadsRow : OpenClaim := { program := "ytflfeimmdpjbeaa", sum := "28969ce3f85548286106deb8d3e2d9e2234098a695edf2e3b8d898d151fc7a32", func := "apodixis/apodixislaw02.SourceReads", spec := "sourceReads", inPlace := ["internal/bytealg.IndexByteString", "internal/bytealg.IndexString"], unfollowed := true, recurses := true, named := ["internal/bytealg.MaxLen"], maps := true, apart := false }
def SourceReadsSaid : Prop := sourceReadsRow.holds Try.pinned (OpenSpec.ofChange sourceReadsSpec)

/-- ITS FALSE NEIGHBOUR: 'it returns false'. Refute it at one input. -/
def sourceReadsWrong : ChangeSpec := { name := "sourceReads", fn := fun _ => fun
  | [d1, d2, d3] => { results := [.lit (.bool false)], args := [d1, d2, d3] }
  | _ => none }
def SourceReadsWrongFalsely : Prop := sourceReadsRow.holds Try.pinned (OpenSpec.ofChange sourceReadsWrong)

/-- 'apodixislaw02.SourceUnits': WHATEVER THE INPUT: true; the input reads as it did. -/
def sourceUnitsSpec : ChangeSpec := { name := "sourceUnits", fn := fun _ => fun
  | [d1, d2, d3] => { results := [.lit (.bool true)], args := [d1, d2, d3] }
  | _ => none }
def sourceUnitsRow : OpenClaim := { program := "ytflfeimmdpjbeaa", sum := "28969ce3f85548286106deb8d3e2d9e2234098a695edf2e3b8d898d151fc7a32", func := "apodixis/apodixislaw02.SourceUnits", spec := "sourceUnits", inPlace := ["internal/bytealg.IndexByteString", "internal/bytealg.IndexString"], named := ["internal/bytealg.MaxLen"], apart := false }
def SourceUnitsSaid : Prop := sourceUnitsRow.holds Try.pinned (OpenSpec.ofChange sourceUnitsSpec)

/-- ITS FALSE NEIGHBOUR: 'it returns false'. Refute it at one input. -/
def sourceUnitsWrong : ChangeSpec := { name := "sourceUnits", fn := fun _ => fun
  | [d1, d2, d3] => { results := [.lit (.bool false)], args := [d1, d2, d3] }
  | _ => none }
def SourceUnitsWrongFalsely : Prop := sourceUnitsRow.holds Try.pinned (OpenSpec.ofChange sourceUnitsWrong)

/-- 'apodixislaw02.SourceMarks': WHATEVER THE INPUT: true; the input reads as it did. -/
def sourceMarksSpec : ChangeSpec := { name := "sourceMarks", fn := fun _ => fun
  | [d1, d2] => { results := [.lit (.bool true)], args := [d1, d2] }
  | _ => none }
def sourceMarksRow : OpenClaim := { program := "ytflfeimmdpjbeaa", sum := "28969ce3f85548286106deb8d3e2d9e2234098a695edf2e3b8d898d151fc7a32", func := "apodixis/apodixislaw02.SourceMarks", spec := "sourceMarks", inPlace := ["internal/bytealg.IndexByteString", "internal/bytealg.IndexString"], unfollowed := true, recurses := true, named := ["internal/bytealg.MaxLen"], apart := false }
def SourceMarksSaid : Prop := sourceMarksRow.holds Try.pinned (OpenSpec.ofChange sourceMarksSpec)

/-- ITS FALSE NEIGHBOUR: 'it returns false'. Refute it at one input. -/
def sourceMarksWrong : ChangeSpec := { name := "sourceMarks", fn := fun _ => fun
  | [d1, d2] => { results := [.lit (.bool false)], args := [d1, d2] }
  | _ => none }
def SourceMarksWrongFalsely : Prop := sourceMarksRow.holds Try.pinned (OpenSpec.ofChange sourceMarksWrong)

/-- 'apodixislaw02.SourceMarked': WHATEVER THE INPUT: true; the input reads as it did. -/
def sourceMarkedSpec : ChangeSpec := { name := "sourceMarked", fn := fun _ => fun
  | [d1, d2] => { results := [.lit (.bool true)], args := [d1, d2] }
  | _ => none }
def sourceMarkedRow : OpenClaim := { program := "ytflfeimmdpjbeaa", sum := "28969ce3f85548286106deb8d3e2d9e2234098a695edf2e3b8d898d151fc7a32", func := "apodixis/apodixislaw02.SourceMarked", spec := "sourceMarked", inPlace := ["internal/bytealg.IndexByteString", "internal/bytealg.IndexString"], unfollowed := true, recurses := true, named := ["internal/bytealg.MaxLen"], apart := false }
def SourceMarkedSaid : Prop := sourceMarkedRow.holds Try.pinned (OpenSpec.ofChange sourceMarkedSpec)

/-- ITS FALSE NEIGHBOUR: 'it returns false'. Refute it at one input. -/
def sourceMarkedWrong : ChangeSpec := { name := "sourceMarked", fn := fun _ => fun
  | [d1, d2] => { results := [.lit (.bool false)], args := [d1, d2] }
  | _ => none }
def SourceMarkedWrongFalsely : Prop := sourceMarkedRow.holds Try.pinned (OpenSpec.ofChange sourceMarkedWrong)

/-- 'apodixislaw02.SourceOnce': WHATEVER THE INPUT: true; the input reads as it did. -/
def sourceOnceSpec : ChangeSpec := { name := "sourceOnce", fn := fun _ => fun
  | [d1, d2] => { results := [.lit (.bool true)], args := [d1, d2] }
  | _ => none }
def sourceOnceRow : OpenClaim := { program := "ytflfeimmdpjbeaa", sum := "28969ce3f85548286106deb8d3e2d9e2234098a695edf2e3b8d898d151fc7a32", func := "apodixis/apodixislaw02.SourceOnce", spec := "sourceOnce", inPlace := ["internal/bytealg.IndexByteString", "internal/bytealg.IndexString"], unfollowed := true, recurses := true, named := ["internal/bytealg.MaxLen"], maps := true, apart := false }
def SourceOnceSaid : Prop := sourceOnceRow.holds Try.pinned (OpenSpec.ofChange sourceOnceSpec)

/-- ITS FALSE NEIGHBOUR: 'it returns false'. Refute it at one input. -/
def sourceOnceWrong : ChangeSpec := { name := "sourceOnce", fn := fun _ => fun
  | [d1, d2] => { results := [.lit (.bool false)], args := [d1, d2] }
  | _ => none }
def SourceOnceWrongFalsely : Prop := sourceOnceRow.holds Try.pinned (OpenSpec.ofChange sourceOnceWrong)

/- THE SECOND FORM. 'bulk': how many values and letters a reading holds, each counted each time it is reached (what is shared counts as often as it is met; a slice's spare places count too). A statement '..UptoSaid' is the law's where the arguments, and the package variables that the reading takes, are together of bulk at most 1048576: NARROWER than '..Said'. Prove '..Said' where nothing that the law and all that it calls make is longer than what came in: it says more and counts as full. Else prove '..UptoSaid'. A law counts once. -/
mutual
def uptoBulk {H : Type} : DataW H → Nat
  | .lit (.string bytes) => bytes.length + 1
  | .lit _ => 1
  | .nil => 1
  | .ptr d => uptoBulk d + 1
  | .slice elems spare => uptoBulkAll elems + uptoBulkAll spare + 1
  | .agg parts => uptoBulkAll parts + 1
  | .iface _ d => uptoBulk d + 1
  | .map entries => uptoBulkEntries entries + 1
  | .held _ => 1
def uptoBulkAll {H : Type} : List (DataW H) → Nat
  | [] => 0
  | d :: r => uptoBulk d + uptoBulkAll r
def uptoBulkEntries {H : Type} : List (Lit × DataW H) → Nat
  | [] => 0
  | x :: r => uptoBulkEntry x + uptoBulkEntries r
def uptoBulkEntry {H : Type} : Lit × DataW H → Nat
  | (.string bytes, d) => bytes.length + uptoBulk d + 1
  | (_, d) => uptoBulk d + 1
 end
def uptoSmall : (H : Type) → List (DataW H) → Bool := fun _ ds => decide (uptoBulkAll ds ≤ 1048576)
def OpenSpec.upto (s : _root_.Go.ChangeSpec) : _root_.Go.OpenSpec := { _root_.Go.OpenSpec.ofChange s with cond := some uptoSmall }

/-- 'apodixislaw01.TokenScans', WHERE WHAT IT READS IS OF BULK AT MOST 1048576: true; the input reads as it did. -/
def tokenScansUptoRow : OpenClaim := { program := "ytflfeimmdpjbeaa", sum := "28969ce3f85548286106deb8d3e2d9e2234098a695edf2e3b8d898d151fc7a32", func := "apodixis/apodixislaw01.TokenScans", spec := "tokenScans", unfollowed := true, recurses := true, apart := false, narrowed := true }
def TokenScansUptoSaid : Prop := tokenScansUptoRow.holds Try.pinned (OpenSpec.upto tokenScansSpec)

/-- 'apodixislaw01.TokenKinds', WHERE WHAT IT READS IS OF BULK AT MOST 1048576: true; the input reads as it did. -/
def tokenKindsUptoRow : OpenClaim := { program := "ytflfeimmdpjbeaa", sum := "28969ce3f85548286106deb8d3e2d9e2234098a695edf2e3b8d898d151fc7a32", func := "apodixis/apodixislaw01.TokenKinds", spec := "tokenKinds", unfollowed := true, recurses := true, apart := false, narrowed := true }
def TokenKindsUptoSaid : Prop := tokenKindsUptoRow.holds Try.pinned (OpenSpec.upto tokenKindsSpec)

/-- 'apodixislaw01.TokenPositions', WHERE WHAT IT READS IS OF BULK AT MOST 1048576: true; the input reads as it did. -/
def tokenPositionsUptoRow : OpenClaim := { program := "ytflfeimmdpjbeaa", sum := "28969ce3f85548286106deb8d3e2d9e2234098a695edf2e3b8d898d151fc7a32", func := "apodixis/apodixislaw01.TokenPositions", spec := "tokenPositions", unfollowed := true, recurses := true, apart := false, narrowed := true }
def TokenPositionsUptoSaid : Prop := tokenPositionsUptoRow.holds Try.pinned (OpenSpec.upto tokenPositionsSpec)

/-- 'apodixislaw01.TokenWeaves', WHERE WHAT IT READS IS OF BULK AT MOST 1048576: true; the input reads as it did. -/
def tokenWeavesUptoRow : OpenClaim := { program := "ytflfeimmdpjbeaa", sum := "28969ce3f85548286106deb8d3e2d9e2234098a695edf2e3b8d898d151fc7a32", func := "apodixis/apodixislaw01.TokenWeaves", spec := "tokenWeaves", inPlace := ["internal/abi.NoEscape", "internal/bytealg.MakeNoZero"], unfollowed := true, recurses := true, apart := false, narrowed := true }
def TokenWeavesUptoSaid : Prop := tokenWeavesUptoRow.holds Try.pinned (OpenSpec.upto tokenWeavesSpec)

/-- 'apodixislaw01.TokenBack', WHERE WHAT IT READS IS OF BULK AT MOST 1048576: true; the input reads as it did. -/
def tokenBackUptoRow : OpenClaim := { program := "ytflfeimmdpjbeaa", sum := "28969ce3f85548286106deb8d3e2d9e2234098a695edf2e3b8d898d151fc7a32", func := "apodixis/apodixislaw01.TokenBack", spec := "tokenBack", inPlace := ["internal/abi.NoEscape", "internal/bytealg.MakeNoZero"], unfollowed := true, recurses := true, apart := false, narrowed := true }
def TokenBackUptoSaid : Prop := tokenBackUptoRow.holds Try.pinned (OpenSpec.upto tokenBackSpec)

/-- 'apodixislaw01.TokenLocal', WHERE WHAT IT READS IS OF BULK AT MOST 1048576: true; the input reads as it did. -/
def tokenLocalUptoRow : OpenClaim := { program := "ytflfeimmdpjbeaa", sum := "28969ce3f85548286106deb8d3e2d9e2234098a695edf2e3b8d898d151fc7a32", func := "apodixis/apodixislaw01.TokenLocal", spec := "tokenLocal", unfollowed := true, recurses := true, apart := false, narrowed := true }
def TokenLocalUptoSaid : Prop := tokenLocalUptoRow.holds Try.pinned (OpenSpec.upto tokenLocalSpec)

/-- 'apodixislaw02.SourceStrips', WHERE WHAT IT READS IS OF BULK AT MOST 1048576: true; the input reads as it did. -/
def sourceStripsUptoRow : OpenClaim := { program := "ytflfeimmdpjbeaa", sum := "28969ce3f85548286106deb8d3e2d9e2234098a695edf2e3b8d898d151fc7a32", func := "apodixis/apodixislaw02.SourceStrips", spec := "sourceStrips", inPlace := ["internal/bytealg.IndexByteString", "internal/bytealg.IndexString"], named := ["internal/bytealg.MaxLen"], apart := false, narrowed := true }
def SourceStripsUptoSaid : Prop := sourceStripsUptoRow.holds Try.pinned (OpenSpec.upto sourceStripsSpec)

/-- 'apodixislaw02.SourceReads', WHERE WHAT IT READS IS OF BULK AT MOST 1048576: true; the input reads as it did. -/
def sourceReadsUptoRow : OpenClaim := { program := "ytflfeimmdpjbeaa", sum := "28969ce3f85548286106deb8d3e2d9e2234098a695edf2e3b8d898d151fc7a32", func := "apodixis/apodixislaw02.SourceReads", spec := "sourceReads", inPlace := ["internal/bytealg.IndexByteString", "internal/bytealg.IndexString"], unfollowed := true, recurses := true, named := ["internal/bytealg.MaxLen"], maps := true, apart := false, narrowed := true }
def SourceReadsUptoSaid : Prop := sourceReadsUptoRow.holds Try.pinned (OpenSpec.upto sourceReadsSpec)

/-- 'apodixislaw02.SourceUnits', WHERE WHAT IT READS IS OF BULK AT MOST 1048576: true; the input reads as it did. -/
def sourceUnitsUptoRow : OpenClaim := { program := "ytflfeimmdpjbeaa", sum := "28969ce3f85548286106deb8d3e2d9e2234098a695edf2e3b8d898d151fc7a32", func := "apodixis/apodixislaw02.SourceUnits", spec := "sourceUnits", inPlace := ["internal/bytealg.IndexByteString", "internal/bytealg.IndexString"], named := ["internal/bytealg.MaxLen"], apart := false, narrowed := true }
def SourceUnitsUptoSaid : Prop := sourceUnitsUptoRow.holds Try.pinned (OpenSpec.upto sourceUnitsSpec)

/-- 'apodixislaw02.SourceMarks', WHERE WHAT IT READS IS OF BULK AT MOST 1048576: true; the input reads as it did. -/
def sourceMarksUptoRow : OpenClaim := { program := "ytflfeimmdpjbeaa", sum := "28969ce3f85548286106deb8d3e2d9e2234098a695edf2e3b8d898d151fc7a32", func := "apodixis/apodixislaw02.SourceMarks", spec := "sourceMarks", inPlace := ["internal/bytealg.IndexByteString", "internal/bytealg.IndexString"], unfollowed := true, recurses := true, named := ["internal/bytealg.MaxLen"], apart := false, narrowed := true }
def SourceMarksUptoSaid : Prop := sourceMarksUptoRow.holds Try.pinned (OpenSpec.upto sourceMarksSpec)

/-- 'apodixislaw02.SourceMarked', WHERE WHAT IT READS IS OF BULK AT MOST 1048576: true; the input reads as it did. -/
def sourceMarkedUptoRow : OpenClaim := { program := "ytflfeimmdpjbeaa", sum := "28969ce3f85548286106deb8d3e2d9e2234098a695edf2e3b8d898d151fc7a32", func := "apodixis/apodixislaw02.SourceMarked", spec := "sourceMarked", inPlace := ["internal/bytealg.IndexByteString", "internal/bytealg.IndexString"], unfollowed := true, recurses := true, named := ["internal/bytealg.MaxLen"], apart := false, narrowed := true }
def SourceMarkedUptoSaid : Prop := sourceMarkedUptoRow.holds Try.pinned (OpenSpec.upto sourceMarkedSpec)

/-- 'apodixislaw02.SourceOnce', WHERE WHAT IT READS IS OF BULK AT MOST 1048576: true; the input reads as it did. -/
def sourceOnceUptoRow : OpenClaim := { program := "ytflfeimmdpjbeaa", sum := "28969ce3f85548286106deb8d3e2d9e2234098a695edf2e3b8d898d151fc7a32", func := "apodixis/apodixislaw02.SourceOnce", spec := "sourceOnce", inPlace := ["internal/bytealg.IndexByteString", "internal/bytealg.IndexString"], unfollowed := true, recurses := true, named := ["internal/bytealg.MaxLen"], maps := true, apart := false, narrowed := true }
def SourceOnceUptoSaid : Prop := sourceOnceUptoRow.holds Try.pinned (OpenSpec.upto sourceOnceSpec)

end Rows
end Go.Proofs.Ytflfeimmdpjbeaa
