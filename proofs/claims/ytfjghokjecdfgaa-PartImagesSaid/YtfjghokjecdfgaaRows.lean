/-
  No cell of these rows narrows 'for every input' (looked for: loops, veiled, ifaces, maps, wideKeys, modest, calm, conditions, laid).
  DERIVED. THE GIVEN ROWS OF THIS SEAT. 12 by the template 'for every input the law returns true; each argument reads behind the call as it read before'; 0 by the template 'total and deterministic' (their statements: YtfjghokjecdfgaaTotals.lean).
  GIVEN WITH THE SEED: the statements are not yours to turn. If you find one false, say at which input.
  Laid BY PROGRAM, IN A SANDBOX (cutbox-rows.mjs): the forced cells as the released guide's own fill.sh prints them over the translation 6f1990eda93fc1df… (all of the seat's roots in one cut). By AI agents, Wed Nov 11 2026. No macro, syntax, notation, axiom, sorry.
-/
import Derived.Test.YtfjghokjecdfgaaChecked
import GoSem.Claim
import GoSem.ClaimJoined
import GoSem.ClaimMapViews
import Derived.JoinedTies
import Derived.KernelRfl
namespace Go.Proofs.Ytfjghokjecdfgaa
/- THE CELL 'sum', in the pinned program and in every row, IS THE sha256 OF THE DUMP (.gsa) THAT YtfjghokjecdfgaaProg.lean LOADS. Nothing in Lean hashes anything: it is a label: what it is worth is what the hold of that sum in a sandbox is worth. -/
noncomputable def Try.pinned : Pinned := { name := "ytfjghokjecdfgaa", sum := "6f1990eda93fc1dfbea4c4bd6c0532ea0c129a485ac70dd673a87b0d214d7259", checked := Try.checked }
namespace Rows
def none {H : Type} : Left H := { results := [], args := [] }

/-- 'umlautlaw01.SpanNorms': WHATEVER THE INPUT: true; the input reads as it did. -/
def spanNormsSpec : ChangeSpec := { name := "spanNorms", fn := fun _ => fun
  | [d] => { results := [.lit (.bool true)], args := [d] }
  | _ => none }
def spanNormsRow : OpenClaim := { program := "ytfjghokjecdfgaa", sum := "6f1990eda93fc1dfbea4c4bd6c0532ea0c129a485ac70dd673a87b0d214d7259", func := "umlaut/umlautlaw01.SpanNorms", spec := "spanNorms", unfollowed := true, recurses := true, apart := false }
def SpanNormsSaid : Prop := spanNormsRow.holds Try.pinned (OpenSpec.ofChange spanNormsSpec)

/-- ITS FALSE NEIGHBOUR: 'it returns false'. Refute it at one input. -/
def spanNormsWrong : ChangeSpec := { name := "spanNorms", fn := fun _ => fun
  | [d] => { results := [.lit (.bool false)], args := [d] }
  | _ => none }
def SpanNormsWrongFalsely : Prop := spanNormsRow.holds Try.pinned (OpenSpec.ofChange spanNormsWrong)

/-- 'umlautlaw01.SpanAsks': WHATEVER THE INPUT: true; the input reads as it did. -/
def spanAsksSpec : ChangeSpec := { name := "spanAsks", fn := fun _ => fun
  | [d1, d2, d3] => { results := [.lit (.bool true)], args := [d1, d2, d3] }
  | _ => none }
def spanAsksRow : OpenClaim := { program := "ytfjghokjecdfgaa", sum := "6f1990eda93fc1dfbea4c4bd6c0532ea0c129a485ac70dd673a87b0d214d7259", func := "umlaut/umlautlaw01.SpanAsks", spec := "spanAsks", unfollowed := true, recurses := true, apart := false }
def SpanAsksSaid : Prop := spanAsksRow.holds Try.pinned (OpenSpec.ofChange spanAsksSpec)

/-- ITS FALSE NEIGHBOUR: 'it returns false'. Refute it at one input. -/
def spanAsksWrong : ChangeSpec := { name := "spanAsks", fn := fun _ => fun
  | [d1, d2, d3] => { results := [.lit (.bool false)], args := [d1, d2, d3] }
  | _ => none }
def SpanAsksWrongFalsely : Prop := spanAsksRow.holds Try.pinned (OpenSpec.ofChange spanAsksWrong)

/-- 'umlautlaw01.SpanPairs': WHATEVER THE INPUT: true; the input reads as it did. -/
def spanPairsSpec : ChangeSpec := { name := "spanPairs", fn := fun _ => fun
  | [d1, d2] => { results := [.lit (.bool true)], args := [d1, d2] }
  | _ => none }
def spanPairsRow : OpenClaim := { program := "ytfjghokjecdfgaa", sum := "6f1990eda93fc1dfbea4c4bd6c0532ea0c129a485ac70dd673a87b0d214d7259", func := "umlaut/umlautlaw01.SpanPairs", spec := "spanPairs", unfollowed := true, recurses := true, apart := false }
def SpanPairsSaid : Prop := spanPairsRow.holds Try.pinned (OpenSpec.ofChange spanPairsSpec)

/-- ITS FALSE NEIGHBOUR: 'it returns false'. Refute it at one input. -/
def spanPairsWrong : ChangeSpec := { name := "spanPairs", fn := fun _ => fun
  | [d1, d2] => { results := [.lit (.bool false)], args := [d1, d2] }
  | _ => none }
def SpanPairsWrongFalsely : Prop := spanPairsRow.holds Try.pinned (OpenSpec.ofChange spanPairsWrong)

/-- 'umlautlaw01.SpanMoves': WHATEVER THE INPUT: true; the input reads as it did. -/
def spanMovesSpec : ChangeSpec := { name := "spanMoves", fn := fun _ => fun
  | [d1, d2] => { results := [.lit (.bool true)], args := [d1, d2] }
  | _ => none }
def spanMovesRow : OpenClaim := { program := "ytfjghokjecdfgaa", sum := "6f1990eda93fc1dfbea4c4bd6c0532ea0c129a485ac70dd673a87b0d214d7259", func := "umlaut/umlautlaw01.SpanMoves", spec := "spanMoves", unfollowed := true, recurses := true, apart := false }
def SpanMovesSaid : Prop := spanMovesRow.holds Try.pinned (OpenSpec.ofChange spanMovesSpec)

/-- ITS FALSE NEIGHBOUR: 'it returns false'. Refute it at one input. -/
def spanMovesWrong : ChangeSpec := { name := "spanMoves", fn := fun _ => fun
  | [d1, d2] => { results := [.lit (.bool false)], args := [d1, d2] }
  | _ => none }
def SpanMovesWrongFalsely : Prop := spanMovesRow.holds Try.pinned (OpenSpec.ofChange spanMovesWrong)

/-- 'umlautlaw01.SpanEach': WHATEVER THE INPUT: true; the input reads as it did. -/
def spanEachSpec : ChangeSpec := { name := "spanEach", fn := fun _ => fun
  | [d1, d2] => { results := [.lit (.bool true)], args := [d1, d2] }
  | _ => none }
def spanEachRow : OpenClaim := { program := "ytfjghokjecdfgaa", sum := "6f1990eda93fc1dfbea4c4bd6c0532ea0c129a485ac70dd673a87b0d214d7259", func := "umlaut/umlautlaw01.SpanEach", spec := "spanEach", unfollowed := true, recurses := true, apart := false }
def SpanEachSaid : Prop := spanEachRow.holds Try.pinned (OpenSpec.ofChange spanEachSpec)

/-- ITS FALSE NEIGHBOUR: 'it returns false'. Refute it at one input. -/
def spanEachWrong : ChangeSpec := { name := "spanEach", fn := fun _ => fun
  | [d1, d2] => { results := [.lit (.bool false)], args := [d1, d2] }
  | _ => none }
def SpanEachWrongFalsely : Prop := spanEachRow.holds Try.pinned (OpenSpec.ofChange spanEachWrong)

/-- 'umlautlaw01.SpanAlgebra': WHATEVER THE INPUT: true; the input reads as it did. -/
def spanAlgebraSpec : ChangeSpec := { name := "spanAlgebra", fn := fun _ => fun
  | [d1, d2, d3] => { results := [.lit (.bool true)], args := [d1, d2, d3] }
  | _ => none }
def spanAlgebraRow : OpenClaim := { program := "ytfjghokjecdfgaa", sum := "6f1990eda93fc1dfbea4c4bd6c0532ea0c129a485ac70dd673a87b0d214d7259", func := "umlaut/umlautlaw01.SpanAlgebra", spec := "spanAlgebra", unfollowed := true, recurses := true, apart := false }
def SpanAlgebraSaid : Prop := spanAlgebraRow.holds Try.pinned (OpenSpec.ofChange spanAlgebraSpec)

/-- ITS FALSE NEIGHBOUR: 'it returns false'. Refute it at one input. -/
def spanAlgebraWrong : ChangeSpec := { name := "spanAlgebra", fn := fun _ => fun
  | [d1, d2, d3] => { results := [.lit (.bool false)], args := [d1, d2, d3] }
  | _ => none }
def SpanAlgebraWrongFalsely : Prop := spanAlgebraRow.holds Try.pinned (OpenSpec.ofChange spanAlgebraWrong)

/-- 'umlautlaw01.SpanParts': WHATEVER THE INPUT: true; the input reads as it did. -/
def spanPartsSpec : ChangeSpec := { name := "spanParts", fn := fun _ => fun
  | [d1, d2, d3] => { results := [.lit (.bool true)], args := [d1, d2, d3] }
  | _ => none }
def spanPartsRow : OpenClaim := { program := "ytfjghokjecdfgaa", sum := "6f1990eda93fc1dfbea4c4bd6c0532ea0c129a485ac70dd673a87b0d214d7259", func := "umlaut/umlautlaw01.SpanParts", spec := "spanParts", unfollowed := true, recurses := true, apart := false }
def SpanPartsSaid : Prop := spanPartsRow.holds Try.pinned (OpenSpec.ofChange spanPartsSpec)

/-- ITS FALSE NEIGHBOUR: 'it returns false'. Refute it at one input. -/
def spanPartsWrong : ChangeSpec := { name := "spanParts", fn := fun _ => fun
  | [d1, d2, d3] => { results := [.lit (.bool false)], args := [d1, d2, d3] }
  | _ => none }
def SpanPartsWrongFalsely : Prop := spanPartsRow.holds Try.pinned (OpenSpec.ofChange spanPartsWrong)

/-- 'umlautlaw01.SpanBack': WHATEVER THE INPUT: true; the input reads as it did. -/
def spanBackSpec : ChangeSpec := { name := "spanBack", fn := fun _ => fun
  | [d1, d2, d3] => { results := [.lit (.bool true)], args := [d1, d2, d3] }
  | _ => none }
def spanBackRow : OpenClaim := { program := "ytfjghokjecdfgaa", sum := "6f1990eda93fc1dfbea4c4bd6c0532ea0c129a485ac70dd673a87b0d214d7259", func := "umlaut/umlautlaw01.SpanBack", spec := "spanBack", unfollowed := true, recurses := true, apart := false }
def SpanBackSaid : Prop := spanBackRow.holds Try.pinned (OpenSpec.ofChange spanBackSpec)

/-- ITS FALSE NEIGHBOUR: 'it returns false'. Refute it at one input. -/
def spanBackWrong : ChangeSpec := { name := "spanBack", fn := fun _ => fun
  | [d1, d2, d3] => { results := [.lit (.bool false)], args := [d1, d2, d3] }
  | _ => none }
def SpanBackWrongFalsely : Prop := spanBackRow.holds Try.pinned (OpenSpec.ofChange spanBackWrong)

/-- 'umlautlaw03.PartImages': WHATEVER THE INPUT: true; the input reads as it did. -/
def partImagesSpec : ChangeSpec := { name := "partImages", fn := fun _ => fun
  | [d1, d2] => { results := [.lit (.bool true)], args := [d1, d2] }
  | _ => none }
def partImagesRow : OpenClaim := { program := "ytfjghokjecdfgaa", sum := "6f1990eda93fc1dfbea4c4bd6c0532ea0c129a485ac70dd673a87b0d214d7259", func := "umlaut/umlautlaw03.PartImages", spec := "partImages", unfollowed := true, recurses := true, apart := false }
def PartImagesSaid : Prop := partImagesRow.holds Try.pinned (OpenSpec.ofChange partImagesSpec)

/-- ITS FALSE NEIGHBOUR: 'it returns false'. Refute it at one input. -/
def partImagesWrong : ChangeSpec := { name := "partImages", fn := fun _ => fun
  | [d1, d2] => { results := [.lit (.bool false)], args := [d1, d2] }
  | _ => none }
def PartImagesWrongFalsely : Prop := partImagesRow.holds Try.pinned (OpenSpec.ofChange partImagesWrong)

/-- 'umlautlaw03.PartPres': WHATEVER THE INPUT: true; the input reads as it did. -/
def partPresSpec : ChangeSpec := { name := "partPres", fn := fun _ => fun
  | [d1, d2, d3] => { results := [.lit (.bool true)], args := [d1, d2, d3] }
  | _ => none }
def partPresRow : OpenClaim := { program := "ytfjghokjecdfgaa", sum := "6f1990eda93fc1dfbea4c4bd6c0532ea0c129a485ac70dd673a87b0d214d7259", func := "umlaut/umlautlaw03.PartPres", spec := "partPres", unfollowed := true, recurses := true, apart := false }
def PartPresSaid : Prop := partPresRow.holds Try.pinned (OpenSpec.ofChange partPresSpec)

/-- ITS FALSE NEIGHBOUR: 'it returns false'. Refute it at one input. -/
def partPresWrong : ChangeSpec := { name := "partPres", fn := fun _ => fun
  | [d1, d2, d3] => { results := [.lit (.bool false)], args := [d1, d2, d3] }
  | _ => none }
def PartPresWrongFalsely : Prop := partPresRow.holds Try.pinned (OpenSpec.ofChange partPresWrong)

/-- 'umlautlaw03.PartPoints': WHATEVER THE INPUT: true; the input reads as it did. -/
def partPointsSpec : ChangeSpec := { name := "partPoints", fn := fun _ => fun
  | [d1, d2, d3, d4] => { results := [.lit (.bool true)], args := [d1, d2, d3, d4] }
  | _ => none }
def partPointsRow : OpenClaim := { program := "ytfjghokjecdfgaa", sum := "6f1990eda93fc1dfbea4c4bd6c0532ea0c129a485ac70dd673a87b0d214d7259", func := "umlaut/umlautlaw03.PartPoints", spec := "partPoints", unfollowed := true, recurses := true, apart := false }
def PartPointsSaid : Prop := partPointsRow.holds Try.pinned (OpenSpec.ofChange partPointsSpec)

/-- ITS FALSE NEIGHBOUR: 'it returns false'. Refute it at one input. -/
def partPointsWrong : ChangeSpec := { name := "partPoints", fn := fun _ => fun
  | [d1, d2, d3, d4] => { results := [.lit (.bool false)], args := [d1, d2, d3, d4] }
  | _ => none }
def PartPointsWrongFalsely : Prop := partPointsRow.holds Try.pinned (OpenSpec.ofChange partPointsWrong)

/-- 'umlautlaw03.PartWhole': WHATEVER THE INPUT: true; the input reads as it did. -/
def partWholeSpec : ChangeSpec := { name := "partWhole", fn := fun _ => fun
  | [d1, d2, d3] => { results := [.lit (.bool true)], args := [d1, d2, d3] }
  | _ => none }
def partWholeRow : OpenClaim := { program := "ytfjghokjecdfgaa", sum := "6f1990eda93fc1dfbea4c4bd6c0532ea0c129a485ac70dd673a87b0d214d7259", func := "umlaut/umlautlaw03.PartWhole", spec := "partWhole", unfollowed := true, recurses := true, apart := false }
def PartWholeSaid : Prop := partWholeRow.holds Try.pinned (OpenSpec.ofChange partWholeSpec)

/-- ITS FALSE NEIGHBOUR: 'it returns false'. Refute it at one input. -/
def partWholeWrong : ChangeSpec := { name := "partWhole", fn := fun _ => fun
  | [d1, d2, d3] => { results := [.lit (.bool false)], args := [d1, d2, d3] }
  | _ => none }
def PartWholeWrongFalsely : Prop := partWholeRow.holds Try.pinned (OpenSpec.ofChange partWholeWrong)

/- THE SECOND FORM. 'bulk': how many values and letters a reading holds, each counted each time it is reached (what is shared counts as often as it is met; a slice's spare places count too). A statement '..UptoSaid' is the law's where the arguments, and the package variables that the reading takes, are together of bulk at most 1048576: NARROWER than '..Said'. Prove '..Said' where nothing that the law and all that it calls make is longer than what came in: it says more and counts as full. Else prove '..UptoSaid'. A law counts once. -/
mutual
def uptoBulk {H : Type} : DataW H → Nat
  | .lit (.string bytes) => bytes.length + 1
  | .lit _ => 1
  | .nil => 1
  | .ptr d => uptoBulk d + 1
  | .slice elems spare => uptoBulkAll elems + uptoBulkAll spare + 1
  | .agg parts => uptoBulkAll parts + 1
  | .iface _ d => uptoBulk d + 1
  | .map entries => uptoBulkEntries entries + 1
  | .held _ => 1
def uptoBulkAll {H : Type} : List (DataW H) → Nat
  | [] => 0
  | d :: r => uptoBulk d + uptoBulkAll r
def uptoBulkEntries {H : Type} : List (Lit × DataW H) → Nat
  | [] => 0
  | x :: r => uptoBulkEntry x + uptoBulkEntries r
def uptoBulkEntry {H : Type} : Lit × DataW H → Nat
  | (.string bytes, d) => bytes.length + uptoBulk d + 1
  | (_, d) => uptoBulk d + 1
 end
def uptoSmall : (H : Type) → List (DataW H) → Bool := fun _ ds => decide (uptoBulkAll ds ≤ 1048576)
def OpenSpec.upto (s : _root_.Go.ChangeSpec) : _root_.Go.OpenSpec := { _root_.Go.OpenSpec.ofChange s with cond := some uptoSmall }

/-- 'umlautlaw01.SpanNorms', WHERE WHAT IT READS IS OF BULK AT MOST 1048576: true; the input reads as it did. -/
def spanNormsUptoRow : OpenClaim := { program := "ytfjghokjecdfgaa", sum := "6f1990eda93fc1dfbea4c4bd6c0532ea0c129a485ac70dd673a87b0d214d7259", func := "umlaut/umlautlaw01.SpanNorms", spec := "spanNorms", unfollowed := true, recurses := true, apart := false, narrowed := true }
def SpanNormsUptoSaid : Prop := spanNormsUptoRow.holds Try.pinned (OpenSpec.upto spanNormsSpec)

/-- 'umlautlaw01.SpanAsks', WHERE WHAT IT READS IS OF BULK AT MOST 1048576: true; the input reads as it did. -/
def spanAsksUptoRow : OpenClaim := { program := "ytfjghokjecdfgaa", sum := "6f1990eda93fc1dfbea4c4bd6c0532ea0c129a485ac70dd673a87b0d214d7259", func := "umlaut/umlautlaw01.SpanAsks", spec := "spanAsks", unfollowed := true, recurses := true, apart := false, narrowed := true }
def SpanAsksUptoSaid : Prop := spanAsksUptoRow.holds Try.pinned (OpenSpec.upto spanAsksSpec)

/-- 'umlautlaw01.SpanPairs', WHERE WHAT IT READS IS OF BULK AT MOST 1048576: true; the input reads as it did. -/
def spanPairsUptoRow : OpenClaim := { program := "ytfjghokjecdfgaa", sum := "6f1990eda93fc1dfbea4c4bd6c0532ea0c129a485ac70dd673a87b0d214d7259", func := "umlaut/umlautlaw01.SpanPairs", spec := "spanPairs", unfollowed := true, recurses := true, apart := false, narrowed := true }
def SpanPairsUptoSaid : Prop := spanPairsUptoRow.holds Try.pinned (OpenSpec.upto spanPairsSpec)

/-- 'umlautlaw01.SpanMoves', WHERE WHAT IT READS IS OF BULK AT MOST 1048576: true; the input reads as it did. -/
def spanMovesUptoRow : OpenClaim := { program := "ytfjghokjecdfgaa", sum := "6f1990eda93fc1dfbea4c4bd6c0532ea0c129a485ac70dd673a87b0d214d7259", func := "umlaut/umlautlaw01.SpanMoves", spec := "spanMoves", unfollowed := true, recurses := true, apart := false, narrowed := true }
def SpanMovesUptoSaid : Prop := spanMovesUptoRow.holds Try.pinned (OpenSpec.upto spanMovesSpec)

/-- 'umlautlaw01.SpanEach', WHERE WHAT IT READS IS OF BULK AT MOST 1048576: true; the input reads as it did. -/
def spanEachUptoRow : OpenClaim := { program := "ytfjghokjecdfgaa", sum := "6f1990eda93fc1dfbea4c4bd6c0532ea0c129a485ac70dd673a87b0d214d7259", func := "umlaut/umlautlaw01.SpanEach", spec := "spanEach", unfollowed := true, recurses := true, apart := false, narrowed := true }
def SpanEachUptoSaid : Prop := spanEachUptoRow.holds Try.pinned (OpenSpec.upto spanEachSpec)

/-- 'umlautlaw01.SpanAlgebra', WHERE WHAT IT READS IS OF BULK AT MOST 1048576: true; the input reads as it did. -/
def spanAlgebraUptoRow : OpenClaim := { program := "ytfjghokjecdfgaa", sum := "6f1990eda93fc1dfbea4c4bd6c0532ea0c129a485ac70dd673a87b0d214d7259", func := "umlaut/umlautlaw01.SpanAlgebra", spec := "spanAlgebra", unfollowed := true, recurses := true, apart := false, narrowed := true }
def SpanAlgebraUptoSaid : Prop := spanAlgebraUptoRow.holds Try.pinned (OpenSpec.upto spanAlgebraSpec)

/-- 'umlautlaw01.SpanParts', WHERE WHAT IT READS IS OF BULK AT MOST 1048576: true; the input reads as it did. -/
def spanPartsUptoRow : OpenClaim := { program := "ytfjghokjecdfgaa", sum := "6f1990eda93fc1dfbea4c4bd6c0532ea0c129a485ac70dd673a87b0d214d7259", func := "umlaut/umlautlaw01.SpanParts", spec := "spanParts", unfollowed := true, recurses := true, apart := false, narrowed := true }
def SpanPartsUptoSaid : Prop := spanPartsUptoRow.holds Try.pinned (OpenSpec.upto spanPartsSpec)

/-- 'umlautlaw01.SpanBack', WHERE WHAT IT READS IS OF BULK AT MOST 1048576: true; the input reads as it did. -/
def spanBackUptoRow : OpenClaim := { program := "ytfjghokjecdfgaa", sum := "6f1990eda93fc1dfbea4c4bd6c0532ea0c129a485ac70dd673a87b0d214d7259", func := "umlaut/umlautlaw01.SpanBack", spec := "spanBack", unfollowed := true, recurses := true, apart := false, narrowed := true }
def SpanBackUptoSaid : Prop := spanBackUptoRow.holds Try.pinned (OpenSpec.upto spanBackSpec)

/-- 'umlautlaw03.PartImages', WHERE WHAT IT READS IS OF BULK AT MOST 1048576: true; the input reads as it did. -/
def partImagesUptoRow : OpenClaim := { program := "ytfjghokjecdfgaa", sum := "6f1990eda93fc1dfbea4c4bd6c0532ea0c129a485ac70dd673a87b0d214d7259", func := "umlaut/umlautlaw03.PartImages", spec := "partImages", unfollowed := true, recurses := true, apart := false, narrowed := true }
def PartImagesUptoSaid : Prop := partImagesUptoRow.holds Try.pinned (OpenSpec.upto partImagesSpec)

/-- 'umlautlaw03.PartPres', WHERE WHAT IT READS IS OF BULK AT MOST 1048576: true; the input reads as it did. -/
def partPresUptoRow : OpenClaim := { program := "ytfjghokjecdfgaa", sum := "6f1990eda93fc1dfbea4c4bd6c0532ea0c129a485ac70dd673a87b0d214d7259", func := "umlaut/umlautlaw03.PartPres", spec := "partPres", unfollowed := true, recurses := true, apart := false, narrowed := true }
def PartPresUptoSaid : Prop := partPresUptoRow.holds Try.pinned (OpenSpec.upto partPresSpec)

/-- 'umlautlaw03.PartPoints', WHERE WHAT IT READS IS OF BULK AT MOST 1048576: true; the input reads as it did. -/
def partPointsUptoRow : OpenClaim := { program := "ytfjghokjecdfgaa", sum := "6f1990eda93fc1dfbea4c4bd6c0532ea0c129a485ac70dd673a87b0d214d7259", func := "umlaut/umlautlaw03.PartPoints", spec := "partPoints", unfollowed := true, recurses := true, apart := false, narrowed := true }
def PartPointsUptoSaid : Prop := partPointsUptoRow.holds Try.pinned (OpenSpec.upto partPointsSpec)

/-- 'umlautlaw03.PartWhole', WHERE WHAT IT READS IS OF BULK AT MOST 1048576: true; the input reads as it did. -/
def partWholeUptoRow : OpenClaim := { program := "ytfjghokjecdfgaa", sum := "6f1990eda93fc1dfbea4c4bd6c0532ea0c129a485ac70dd673a87b0d214d7259", func := "umlaut/umlautlaw03.PartWhole", spec := "partWhole", unfollowed := true, recurses := true, apart := false, narrowed := true }
def PartWholeUptoSaid : Prop := partWholeUptoRow.holds Try.pinned (OpenSpec.upto partWholeSpec)

end Rows
end Go.Proofs.Ytfjghokjecdfgaa
