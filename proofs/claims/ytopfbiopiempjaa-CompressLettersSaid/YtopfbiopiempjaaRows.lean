/-
  No cell of these rows narrows 'for every input' (looked for: loops, veiled, ifaces, maps, wideKeys, modest, calm, conditions, laid).
  DERIVED. THE GIVEN ROWS OF THIS SEAT. 10 by the template 'for every input the law returns true; each argument reads behind the call as it read before'; 0 by the template 'total and deterministic' (their statements: YtopfbiopiempjaaTotals.lean).
  GIVEN WITH THE SEED: the statements are not yours to turn. If you find one false, say at which input.
  Laid BY PROGRAM, IN A SANDBOX (cutbox-rows.mjs): the forced cells as the released guide's own fill.sh prints them over the translation 950e42d1829be3a4… (all of the seat's roots in one cut). By AI agents, Wed Nov 11 2026. No macro, syntax, notation, axiom, sorry.
-/
import Derived.Test.YtopfbiopiempjaaChecked
import GoSem.Claim
import GoSem.ClaimJoined
import GoSem.ClaimMapViews
import Derived.JoinedTies
import Derived.KernelRfl
namespace Go.Proofs.Ytopfbiopiempjaa
/- THE CELL 'sum', in the pinned program and in every row, IS THE sha256 OF THE DUMP (.gsa) THAT YtopfbiopiempjaaProg.lean LOADS. Nothing in Lean hashes anything: it is a label: what it is worth is what the hold of that sum in a sandbox is worth. -/
noncomputable def Try.pinned : Pinned := { name := "ytopfbiopiempjaa", sum := "950e42d1829be3a4563d66f07778bfcca1376565f5b8586af0ba3895e811e839", checked := Try.checked }
namespace Rows
def none {H : Type} : Left H := { results := [], args := [] }

/-- 'apodixislaw06.SubstApplies': WHATEVER THE INPUT: true; the input reads as it did. -/
def substAppliesSpec : ChangeSpec := { name := "substApplies", fn := fun _ => fun
  | [d1, d2, d3, d4] => { results := [.lit (.bool true)], args := [d1, d2, d3, d4] }
  | _ => none }
def substAppliesRow : OpenClaim := { program := "ytopfbiopiempjaa", sum := "950e42d1829be3a4563d66f07778bfcca1376565f5b8586af0ba3895e811e839", func := "apodixis/apodixislaw06.SubstApplies", spec := "substApplies", inPlace := ["internal/bytealg.abigen_runtime_cmpstring"], unfollowed := true, recurses := true, plainKeys := false, apart := false }
def SubstAppliesSaid : Prop := substAppliesRow.holds Try.pinned (OpenSpec.ofChange substAppliesSpec)

/-- ITS FALSE NEIGHBOUR: 'it returns false'. Refute it at one input. -/
def substAppliesWrong : ChangeSpec := { name := "substApplies", fn := fun _ => fun
  | [d1, d2, d3, d4] => { results := [.lit (.bool false)], args := [d1, d2, d3, d4] }
  | _ => none }
def SubstAppliesWrongFalsely : Prop := substAppliesRow.holds Try.pinned (OpenSpec.ofChange substAppliesWrong)

/-- 'apodixislaw06.SubstComposes': WHATEVER THE INPUT: true; the input reads as it did. -/
def substComposesSpec : ChangeSpec := { name := "substComposes", fn := fun _ => fun
  | [d1, d2] => { results := [.lit (.bool true)], args := [d1, d2] }
  | _ => none }
def substComposesRow : OpenClaim := { program := "ytopfbiopiempjaa", sum := "950e42d1829be3a4563d66f07778bfcca1376565f5b8586af0ba3895e811e839", func := "apodixis/apodixislaw06.SubstComposes", spec := "substComposes", inPlace := ["internal/bytealg.abigen_runtime_cmpstring"], unfollowed := true, recurses := true, plainKeys := false, apart := false }
def SubstComposesSaid : Prop := substComposesRow.holds Try.pinned (OpenSpec.ofChange substComposesSpec)

/-- ITS FALSE NEIGHBOUR: 'it returns false'. Refute it at one input. -/
def substComposesWrong : ChangeSpec := { name := "substComposes", fn := fun _ => fun
  | [d1, d2] => { results := [.lit (.bool false)], args := [d1, d2] }
  | _ => none }
def SubstComposesWrongFalsely : Prop := substComposesRow.holds Try.pinned (OpenSpec.ofChange substComposesWrong)

/-- 'apodixislaw06.SubstPairs': WHATEVER THE INPUT: true; the input reads as it did. -/
def substPairsSpec : ChangeSpec := { name := "substPairs", fn := fun _ => fun
  | [d1, d2, d3, d4, d5] => { results := [.lit (.bool true)], args := [d1, d2, d3, d4, d5] }
  | _ => none }
def substPairsRow : OpenClaim := { program := "ytopfbiopiempjaa", sum := "950e42d1829be3a4563d66f07778bfcca1376565f5b8586af0ba3895e811e839", func := "apodixis/apodixislaw06.SubstPairs", spec := "substPairs", inPlace := ["internal/bytealg.abigen_runtime_cmpstring"], unfollowed := true, recurses := true, plainKeys := false, apart := false }
def SubstPairsSaid : Prop := substPairsRow.holds Try.pinned (OpenSpec.ofChange substPairsSpec)

/-- ITS FALSE NEIGHBOUR: 'it returns false'. Refute it at one input. -/
def substPairsWrong : ChangeSpec := { name := "substPairs", fn := fun _ => fun
  | [d1, d2, d3, d4, d5] => { results := [.lit (.bool false)], args := [d1, d2, d3, d4, d5] }
  | _ => none }
def SubstPairsWrongFalsely : Prop := substPairsRow.holds Try.pinned (OpenSpec.ofChange substPairsWrong)

/-- 'apodixislaw06.SubstTwice': WHATEVER THE INPUT: true; the input reads as it did. -/
def substTwiceSpec : ChangeSpec := { name := "substTwice", fn := fun _ => fun
  | [d1, d2, d3, d4] => { results := [.lit (.bool true)], args := [d1, d2, d3, d4] }
  | _ => none }
def substTwiceRow : OpenClaim := { program := "ytopfbiopiempjaa", sum := "950e42d1829be3a4563d66f07778bfcca1376565f5b8586af0ba3895e811e839", func := "apodixis/apodixislaw06.SubstTwice", spec := "substTwice", inPlace := ["internal/bytealg.abigen_runtime_cmpstring"], unfollowed := true, recurses := true, plainKeys := false, apart := false }
def SubstTwiceSaid : Prop := substTwiceRow.holds Try.pinned (OpenSpec.ofChange substTwiceSpec)

/-- ITS FALSE NEIGHBOUR: 'it returns false'. Refute it at one input. -/
def substTwiceWrong : ChangeSpec := { name := "substTwice", fn := fun _ => fun
  | [d1, d2, d3, d4] => { results := [.lit (.bool false)], args := [d1, d2, d3, d4] }
  | _ => none }
def SubstTwiceWrongFalsely : Prop := substTwiceRow.holds Try.pinned (OpenSpec.ofChange substTwiceWrong)

/-- 'apodixislaw06.SubstParts': WHATEVER THE INPUT: true; the input reads as it did. -/
def substPartsSpec : ChangeSpec := { name := "substParts", fn := fun _ => fun
  | [d1, d2, d3] => { results := [.lit (.bool true)], args := [d1, d2, d3] }
  | _ => none }
def substPartsRow : OpenClaim := { program := "ytopfbiopiempjaa", sum := "950e42d1829be3a4563d66f07778bfcca1376565f5b8586af0ba3895e811e839", func := "apodixis/apodixislaw06.SubstParts", spec := "substParts", inPlace := ["internal/bytealg.abigen_runtime_cmpstring"], unfollowed := true, recurses := true, plainKeys := false, apart := false }
def SubstPartsSaid : Prop := substPartsRow.holds Try.pinned (OpenSpec.ofChange substPartsSpec)

/-- ITS FALSE NEIGHBOUR: 'it returns false'. Refute it at one input. -/
def substPartsWrong : ChangeSpec := { name := "substParts", fn := fun _ => fun
  | [d1, d2, d3] => { results := [.lit (.bool false)], args := [d1, d2, d3] }
  | _ => none }
def SubstPartsWrongFalsely : Prop := substPartsRow.holds Try.pinned (OpenSpec.ofChange substPartsWrong)

/-- 'apodixislaw06.SubstSwaps': WHATEVER THE INPUT: true; the input reads as it did. -/
def substSwapsSpec : ChangeSpec := { name := "substSwaps", fn := fun _ => fun
  | [d1, d2, d3, d4, d5] => { results := [.lit (.bool true)], args := [d1, d2, d3, d4, d5] }
  | _ => none }
def substSwapsRow : OpenClaim := { program := "ytopfbiopiempjaa", sum := "950e42d1829be3a4563d66f07778bfcca1376565f5b8586af0ba3895e811e839", func := "apodixis/apodixislaw06.SubstSwaps", spec := "substSwaps", inPlace := ["internal/bytealg.abigen_runtime_cmpstring"], unfollowed := true, recurses := true, plainKeys := false, apart := false }
def SubstSwapsSaid : Prop := substSwapsRow.holds Try.pinned (OpenSpec.ofChange substSwapsSpec)

/-- ITS FALSE NEIGHBOUR: 'it returns false'. Refute it at one input. -/
def substSwapsWrong : ChangeSpec := { name := "substSwaps", fn := fun _ => fun
  | [d1, d2, d3, d4, d5] => { results := [.lit (.bool false)], args := [d1, d2, d3, d4, d5] }
  | _ => none }
def SubstSwapsWrongFalsely : Prop := substSwapsRow.holds Try.pinned (OpenSpec.ofChange substSwapsWrong)

/-- 'apodixislaw06.SubstApart': WHATEVER THE INPUT: true; the input reads as it did. -/
def substApartSpec : ChangeSpec := { name := "substApart", fn := fun _ => fun
  | [d1, d2, d3, d4] => { results := [.lit (.bool true)], args := [d1, d2, d3, d4] }
  | _ => none }
def substApartRow : OpenClaim := { program := "ytopfbiopiempjaa", sum := "950e42d1829be3a4563d66f07778bfcca1376565f5b8586af0ba3895e811e839", func := "apodixis/apodixislaw06.SubstApart", spec := "substApart", inPlace := ["internal/bytealg.abigen_runtime_cmpstring"], unfollowed := true, recurses := true, plainKeys := false, apart := false }
def SubstApartSaid : Prop := substApartRow.holds Try.pinned (OpenSpec.ofChange substApartSpec)

/-- ITS FALSE NEIGHBOUR: 'it returns false'. Refute it at one input. -/
def substApartWrong : ChangeSpec := { name := "substApart", fn := fun _ => fun
  | [d1, d2, d3, d4] => { results := [.lit (.bool false)], args := [d1, d2, d3, d4] }
  | _ => none }
def SubstApartWrongFalsely : Prop := substApartRow.holds Try.pinned (OpenSpec.ofChange substApartWrong)

/-- 'apodixislaw08.CompressLetters': WHATEVER THE INPUT: true; the input reads as it did. -/
def compressLettersSpec : ChangeSpec := { name := "compressLetters", fn := fun _ => fun
  | [d1, d2] => { results := [.lit (.bool true)], args := [d1, d2] }
  | _ => none }
def compressLettersRow : OpenClaim := { program := "ytopfbiopiempjaa", sum := "950e42d1829be3a4563d66f07778bfcca1376565f5b8586af0ba3895e811e839", func := "apodixis/apodixislaw08.CompressLetters", spec := "compressLetters", unfollowed := true, recurses := true, plainKeys := false, apart := false }
def CompressLettersSaid : Prop := compressLettersRow.holds Try.pinned (OpenSpec.ofChange compressLettersSpec)

/-- ITS FALSE NEIGHBOUR: 'it returns false'. Refute it at one input. -/
def compressLettersWrong : ChangeSpec := { name := "compressLetters", fn := fun _ => fun
  | [d1, d2] => { results := [.lit (.bool false)], args := [d1, d2] }
  | _ => none }
def CompressLettersWrongFalsely : Prop := compressLettersRow.holds Try.pinned (OpenSpec.ofChange compressLettersWrong)

/-- 'apodixislaw08.CompressNumbers': WHATEVER THE INPUT: true; the input reads as it did. -/
def compressNumbersSpec : ChangeSpec := { name := "compressNumbers", fn := fun _ => fun
  | [d1, d2, d3] => { results := [.lit (.bool true)], args := [d1, d2, d3] }
  | _ => none }
def compressNumbersRow : OpenClaim := { program := "ytopfbiopiempjaa", sum := "950e42d1829be3a4563d66f07778bfcca1376565f5b8586af0ba3895e811e839", func := "apodixis/apodixislaw08.CompressNumbers", spec := "compressNumbers", inPlace := ["internal/abi.NoEscape", "internal/bytealg.MakeNoZero"], unfollowed := true, recurses := true, plainKeys := false, apart := false }
def CompressNumbersSaid : Prop := compressNumbersRow.holds Try.pinned (OpenSpec.ofChange compressNumbersSpec)

/-- ITS FALSE NEIGHBOUR: 'it returns false'. Refute it at one input. -/
def compressNumbersWrong : ChangeSpec := { name := "compressNumbers", fn := fun _ => fun
  | [d1, d2, d3] => { results := [.lit (.bool false)], args := [d1, d2, d3] }
  | _ => none }
def CompressNumbersWrongFalsely : Prop := compressNumbersRow.holds Try.pinned (OpenSpec.ofChange compressNumbersWrong)

/-- 'apodixislaw08.CompressWords': WHATEVER THE INPUT: true; the input reads as it did. -/
def compressWordsSpec : ChangeSpec := { name := "compressWords", fn := fun _ => fun
  | [d1, d2, d3] => { results := [.lit (.bool true)], args := [d1, d2, d3] }
  | _ => none }
def compressWordsRow : OpenClaim := { program := "ytopfbiopiempjaa", sum := "950e42d1829be3a4563d66f07778bfcca1376565f5b8586af0ba3895e811e839", func := "apodixis/apodixislaw08.CompressWords", spec := "compressWords", inPlace := ["internal/abi.NoEscape", "internal/bytealg.MakeNoZero"], unfollowed := true, recurses := true, plainKeys := false, apart := false }
def CompressWordsSaid : Prop := compressWordsRow.holds Try.pinned (OpenSpec.ofChange compressWordsSpec)

/-- ITS FALSE NEIGHBOUR: 'it returns false'. Refute it at one input. -/
def compressWordsWrong : ChangeSpec := { name := "compressWords", fn := fun _ => fun
  | [d1, d2, d3] => { results := [.lit (.bool false)], args := [d1, d2, d3] }
  | _ => none }
def CompressWordsWrongFalsely : Prop := compressWordsRow.holds Try.pinned (OpenSpec.ofChange compressWordsWrong)

/- THE SECOND FORM. 'bulk': how many values and letters a reading holds, each counted each time it is reached (what is shared counts as often as it is met; a slice's spare places count too). A statement '..UptoSaid' is the law's where the arguments, and the package variables that the reading takes, are together of bulk at most 1048576: NARROWER than '..Said'. Prove '..Said' where nothing that the law and all that it calls make is longer than what came in: it says more and counts as full. Else prove '..UptoSaid'. A law counts once. -/
mutual
def uptoBulk {H : Type} : DataW H → Nat
  | .lit (.string bytes) => bytes.length + 1
  | .lit _ => 1
  | .nil => 1
  | .ptr d => uptoBulk d + 1
  | .slice elems spare => uptoBulkAll elems + uptoBulkAll spare + 1
  | .agg parts => uptoBulkAll parts + 1
  | .iface _ d => uptoBulk d + 1
  | .map entries => uptoBulkEntries entries + 1
  | .held _ => 1
def uptoBulkAll {H : Type} : List (DataW H) → Nat
  | [] => 0
  | d :: r => uptoBulk d + uptoBulkAll r
def uptoBulkEntries {H : Type} : List (Lit × DataW H) → Nat
  | [] => 0
  | x :: r => uptoBulkEntry x + uptoBulkEntries r
def uptoBulkEntry {H : Type} : Lit × DataW H → Nat
  | (.string bytes, d) => bytes.length + uptoBulk d + 1
  | (_, d) => uptoBulk d + 1
 end
def uptoSmall : (H : Type) → List (DataW H) → Bool := fun _ ds => decide (uptoBulkAll ds ≤ 1048576)
def OpenSpec.upto (s : _root_.Go.ChangeSpec) : _root_.Go.OpenSpec := { _root_.Go.OpenSpec.ofChange s with cond := some uptoSmall }

/-- 'apodixislaw06.SubstApplies', WHERE WHAT IT READS IS OF BULK AT MOST 1048576: true; the input reads as it did. -/
def substAppliesUptoRow : OpenClaim := { program := "ytopfbiopiempjaa", sum := "950e42d1829be3a4563d66f07778bfcca1376565f5b8586af0ba3895e811e839", func := "apodixis/apodixislaw06.SubstApplies", spec := "substApplies", inPlace := ["internal/bytealg.abigen_runtime_cmpstring"], unfollowed := true, recurses := true, plainKeys := false, apart := false, narrowed := true }
def SubstAppliesUptoSaid : Prop := substAppliesUptoRow.holds Try.pinned (OpenSpec.upto substAppliesSpec)

/-- 'apodixislaw06.SubstComposes', WHERE WHAT IT READS IS OF BULK AT MOST 1048576: true; the input reads as it did. -/
def substComposesUptoRow : OpenClaim := { program := "ytopfbiopiempjaa", sum := "950e42d1829be3a4563d66f07778bfcca1376565f5b8586af0ba3895e811e839", func := "apodixis/apodixislaw06.SubstComposes", spec := "substComposes", inPlace := ["internal/bytealg.abigen_runtime_cmpstring"], unfollowed := true, recurses := true, plainKeys := false, apart := false, narrowed := true }
def SubstComposesUptoSaid : Prop := substComposesUptoRow.holds Try.pinned (OpenSpec.upto substComposesSpec)

/-- 'apodixislaw06.SubstPairs', WHERE WHAT IT READS IS OF BULK AT MOST 1048576: true; the input reads as it did. -/
def substPairsUptoRow : OpenClaim := { program := "ytopfbiopiempjaa", sum := "950e42d1829be3a4563d66f07778bfcca1376565f5b8586af0ba3895e811e839", func := "apodixis/apodixislaw06.SubstPairs", spec := "substPairs", inPlace := ["internal/bytealg.abigen_runtime_cmpstring"], unfollowed := true, recurses := true, plainKeys := false, apart := false, narrowed := true }
def SubstPairsUptoSaid : Prop := substPairsUptoRow.holds Try.pinned (OpenSpec.upto substPairsSpec)

/-- 'apodixislaw06.SubstTwice', WHERE WHAT IT READS IS OF BULK AT MOST 1048576: true; the input reads as it did. -/
def substTwiceUptoRow : OpenClaim := { program := "ytopfbiopiempjaa", sum := "950e42d1829be3a4563d66f07778bfcca1376565f5b8586af0ba3895e811e839", func := "apodixis/apodixislaw06.SubstTwice", spec := "substTwice", inPlace := ["internal/bytealg.abigen_runtime_cmpstring"], unfollowed := true, recurses := true, plainKeys := false, apart := false, narrowed := true }
def SubstTwiceUptoSaid : Prop := substTwiceUptoRow.holds Try.pinned (OpenSpec.upto substTwiceSpec)

/-- 'apodixislaw06.SubstParts', WHERE WHAT IT READS IS OF BULK AT MOST 1048576: true; the input reads as it did. -/
def substPartsUptoRow : OpenClaim := { program := "ytopfbiopiempjaa", sum := "950e42d1829be3a4563d66f07778bfcca1376565f5b8586af0ba3895e811e839", func := "apodixis/apodixislaw06.SubstParts", spec := "substParts", inPlace := ["internal/bytealg.abigen_runtime_cmpstring"], unfollowed := true, recurses := true, plainKeys := false, apart := false, narrowed := true }
def SubstPartsUptoSaid : Prop := substPartsUptoRow.holds Try.pinned (OpenSpec.upto substPartsSpec)

/-- 'apodixislaw06.SubstSwaps', WHERE WHAT IT READS IS OF BULK AT MOST 1048576: true; the input reads as it did. -/
def substSwapsUptoRow : OpenClaim := { program := "ytopfbiopiempjaa", sum := "950e42d1829be3a4563d66f07778bfcca1376565f5b8586af0ba3895e811e839", func := "apodixis/apodixislaw06.SubstSwaps", spec := "substSwaps", inPlace := ["internal/bytealg.abigen_runtime_cmpstring"], unfollowed := true, recurses := true, plainKeys := false, apart := false, narrowed := true }
def SubstSwapsUptoSaid : Prop := substSwapsUptoRow.holds Try.pinned (OpenSpec.upto substSwapsSpec)

/-- 'apodixislaw06.SubstApart', WHERE WHAT IT READS IS OF BULK AT MOST 1048576: true; the input reads as it did. -/
def substApartUptoRow : OpenClaim := { program := "ytopfbiopiempjaa", sum := "950e42d1829be3a4563d66f07778bfcca1376565f5b8586af0ba3895e811e839", func := "apodixis/apodixislaw06.SubstApart", spec := "substApart", inPlace := ["internal/bytealg.abigen_runtime_cmpstring"], unfollowed := true, recurses := true, plainKeys := false, apart := false, narrowed := true }
def SubstApartUptoSaid : Prop := substApartUptoRow.holds Try.pinned (OpenSpec.upto substApartSpec)

/-- 'apodixislaw08.CompressLetters', WHERE WHAT IT READS IS OF BULK AT MOST 1048576: true; the input reads as it did. -/
def compressLettersUptoRow : OpenClaim := { program := "ytopfbiopiempjaa", sum := "950e42d1829be3a4563d66f07778bfcca1376565f5b8586af0ba3895e811e839", func := "apodixis/apodixislaw08.CompressLetters", spec := "compressLetters", unfollowed := true, recurses := true, plainKeys := false, apart := false, narrowed := true }
def CompressLettersUptoSaid : Prop := compressLettersUptoRow.holds Try.pinned (OpenSpec.upto compressLettersSpec)

/-- 'apodixislaw08.CompressNumbers', WHERE WHAT IT READS IS OF BULK AT MOST 1048576: true; the input reads as it did. -/
def compressNumbersUptoRow : OpenClaim := { program := "ytopfbiopiempjaa", sum := "950e42d1829be3a4563d66f07778bfcca1376565f5b8586af0ba3895e811e839", func := "apodixis/apodixislaw08.CompressNumbers", spec := "compressNumbers", inPlace := ["internal/abi.NoEscape", "internal/bytealg.MakeNoZero"], unfollowed := true, recurses := true, plainKeys := false, apart := false, narrowed := true }
def CompressNumbersUptoSaid : Prop := compressNumbersUptoRow.holds Try.pinned (OpenSpec.upto compressNumbersSpec)

/-- 'apodixislaw08.CompressWords', WHERE WHAT IT READS IS OF BULK AT MOST 1048576: true; the input reads as it did. -/
def compressWordsUptoRow : OpenClaim := { program := "ytopfbiopiempjaa", sum := "950e42d1829be3a4563d66f07778bfcca1376565f5b8586af0ba3895e811e839", func := "apodixis/apodixislaw08.CompressWords", spec := "compressWords", inPlace := ["internal/abi.NoEscape", "internal/bytealg.MakeNoZero"], unfollowed := true, recurses := true, plainKeys := false, apart := false, narrowed := true }
def CompressWordsUptoSaid : Prop := compressWordsUptoRow.holds Try.pinned (OpenSpec.upto compressWordsSpec)

end Rows
end Go.Proofs.Ytopfbiopiempjaa
