/-
  No cell of these rows narrows 'for every input' (looked for: loops, veiled, ifaces, maps, wideKeys, modest, calm, conditions, laid).
  DERIVED. THE GIVEN ROWS OF THIS SEAT. 8 by the template 'for every input the law returns true; each argument reads behind the call as it read before'; 0 by the template 'total and deterministic' (their statements: YtjlmlomedcnhkaaTotals.lean).
  GIVEN WITH THE SEED: the statements are not yours to turn. If you find one false, say at which input.
  Laid BY PROGRAM, IN A SANDBOX (cutbox-rows.mjs): the forced cells as the released guide's own fill.sh prints them over the translation 9e0f00e3d7091d04… (all of the seat's roots in one cut). By AI agents, Wed Nov 11 2026. No macro, syntax, notation, axiom, sorry.
-/
import Derived.Test.YtjlmlomedcnhkaaChecked
import GoSem.Claim
import GoSem.ClaimJoined
import GoSem.ClaimMapViews
import Derived.JoinedTies
import Derived.KernelRfl
namespace Go.Proofs.Ytjlmlomedcnhkaa
/- THE CELL 'sum', in the pinned program and in every row, IS THE sha256 OF THE DUMP (.gsa) THAT YtjlmlomedcnhkaaProg.lean LOADS. Nothing in Lean hashes anything: it is a label: what it is worth is what the hold of that sum in a sandbox is worth. -/
noncomputable def Try.pinned : Pinned := { name := "ytjlmlomedcnhkaa", sum := "9e0f00e3d7091d042db92412571d358fd64191152136ff4f3dc4af4cf75e0328", checked := Try.checked }
namespace Rows
def none {H : Type} : Left H := { results := [], args := [] }

/-- 'umlautlaw01.SpanEach': WHATEVER THE INPUT: true; the input reads as it did. -/
def spanEachSpec : ChangeSpec := { name := "spanEach", fn := fun _ => fun
  | [d1, d2] => { results := [.lit (.bool true)], args := [d1, d2] }
  | _ => none }
def spanEachRow : OpenClaim := { program := "ytjlmlomedcnhkaa", sum := "9e0f00e3d7091d042db92412571d358fd64191152136ff4f3dc4af4cf75e0328", func := "umlaut/umlautlaw01.SpanEach", spec := "spanEach", unfollowed := true, recurses := true, apart := false }
def SpanEachSaid : Prop := spanEachRow.holds Try.pinned (OpenSpec.ofChange spanEachSpec)

/-- ITS FALSE NEIGHBOUR: 'it returns false'. Refute it at one input. -/
def spanEachWrong : ChangeSpec := { name := "spanEach", fn := fun _ => fun
  | [d1, d2] => { results := [.lit (.bool false)], args := [d1, d2] }
  | _ => none }
def SpanEachWrongFalsely : Prop := spanEachRow.holds Try.pinned (OpenSpec.ofChange spanEachWrong)

/-- 'umlautlaw02.WordLists': WHATEVER THE INPUT: true; the input reads as it did. -/
def wordListsSpec : ChangeSpec := { name := "wordLists", fn := fun _ => fun
  | [d] => { results := [.lit (.bool true)], args := [d] }
  | _ => none }
def wordListsRow : OpenClaim := { program := "ytjlmlomedcnhkaa", sum := "9e0f00e3d7091d042db92412571d358fd64191152136ff4f3dc4af4cf75e0328", func := "umlaut/umlautlaw02.WordLists", spec := "wordLists", unfollowed := true, recurses := true, apart := false }
def WordListsSaid : Prop := wordListsRow.holds Try.pinned (OpenSpec.ofChange wordListsSpec)

/-- ITS FALSE NEIGHBOUR: 'it returns false'. Refute it at one input. -/
def wordListsWrong : ChangeSpec := { name := "wordLists", fn := fun _ => fun
  | [d] => { results := [.lit (.bool false)], args := [d] }
  | _ => none }
def WordListsWrongFalsely : Prop := wordListsRow.holds Try.pinned (OpenSpec.ofChange wordListsWrong)

/-- 'umlautlaw03.PartValues': WHATEVER THE INPUT: true; the input reads as it did. -/
def partValuesSpec : ChangeSpec := { name := "partValues", fn := fun _ => fun
  | [d1, d2, d3] => { results := [.lit (.bool true)], args := [d1, d2, d3] }
  | _ => none }
def partValuesRow : OpenClaim := { program := "ytjlmlomedcnhkaa", sum := "9e0f00e3d7091d042db92412571d358fd64191152136ff4f3dc4af4cf75e0328", func := "umlaut/umlautlaw03.PartValues", spec := "partValues", unfollowed := true, recurses := true, apart := false }
def PartValuesSaid : Prop := partValuesRow.holds Try.pinned (OpenSpec.ofChange partValuesSpec)

/-- ITS FALSE NEIGHBOUR: 'it returns false'. Refute it at one input. -/
def partValuesWrong : ChangeSpec := { name := "partValues", fn := fun _ => fun
  | [d1, d2, d3] => { results := [.lit (.bool false)], args := [d1, d2, d3] }
  | _ => none }
def PartValuesWrongFalsely : Prop := partValuesRow.holds Try.pinned (OpenSpec.ofChange partValuesWrong)

/-- 'umlautlaw03.PartImages': WHATEVER THE INPUT: true; the input reads as it did. -/
def partImagesSpec : ChangeSpec := { name := "partImages", fn := fun _ => fun
  | [d1, d2] => { results := [.lit (.bool true)], args := [d1, d2] }
  | _ => none }
def partImagesRow : OpenClaim := { program := "ytjlmlomedcnhkaa", sum := "9e0f00e3d7091d042db92412571d358fd64191152136ff4f3dc4af4cf75e0328", func := "umlaut/umlautlaw03.PartImages", spec := "partImages", unfollowed := true, recurses := true, apart := false }
def PartImagesSaid : Prop := partImagesRow.holds Try.pinned (OpenSpec.ofChange partImagesSpec)

/-- ITS FALSE NEIGHBOUR: 'it returns false'. Refute it at one input. -/
def partImagesWrong : ChangeSpec := { name := "partImages", fn := fun _ => fun
  | [d1, d2] => { results := [.lit (.bool false)], args := [d1, d2] }
  | _ => none }
def PartImagesWrongFalsely : Prop := partImagesRow.holds Try.pinned (OpenSpec.ofChange partImagesWrong)

/-- 'umlautlaw03.PartPres': WHATEVER THE INPUT: true; the input reads as it did. -/
def partPresSpec : ChangeSpec := { name := "partPres", fn := fun _ => fun
  | [d1, d2, d3] => { results := [.lit (.bool true)], args := [d1, d2, d3] }
  | _ => none }
def partPresRow : OpenClaim := { program := "ytjlmlomedcnhkaa", sum := "9e0f00e3d7091d042db92412571d358fd64191152136ff4f3dc4af4cf75e0328", func := "umlaut/umlautlaw03.PartPres", spec := "partPres", unfollowed := true, recurses := true, apart := false }
def PartPresSaid : Prop := partPresRow.holds Try.pinned (OpenSpec.ofChange partPresSpec)

/-- ITS FALSE NEIGHBOUR: 'it returns false'. Refute it at one input. -/
def partPresWrong : ChangeSpec := { name := "partPres", fn := fun _ => fun
  | [d1, d2, d3] => { results := [.lit (.bool false)], args := [d1, d2, d3] }
  | _ => none }
def PartPresWrongFalsely : Prop := partPresRow.holds Try.pinned (OpenSpec.ofChange partPresWrong)

/-- 'umlautlaw03.PartPoints': WHATEVER THE INPUT: true; the input reads as it did. -/
def partPointsSpec : ChangeSpec := { name := "partPoints", fn := fun _ => fun
  | [d1, d2, d3, d4] => { results := [.lit (.bool true)], args := [d1, d2, d3, d4] }
  | _ => none }
def partPointsRow : OpenClaim := { program := "ytjlmlomedcnhkaa", sum := "9e0f00e3d7091d042db92412571d358fd64191152136ff4f3dc4af4cf75e0328", func := "umlaut/umlautlaw03.PartPoints", spec := "partPoints", unfollowed := true, recurses := true, apart := false }
def PartPointsSaid : Prop := partPointsRow.holds Try.pinned (OpenSpec.ofChange partPointsSpec)

/-- ITS FALSE NEIGHBOUR: 'it returns false'. Refute it at one input. -/
def partPointsWrong : ChangeSpec := { name := "partPoints", fn := fun _ => fun
  | [d1, d2, d3, d4] => { results := [.lit (.bool false)], args := [d1, d2, d3, d4] }
  | _ => none }
def PartPointsWrongFalsely : Prop := partPointsRow.holds Try.pinned (OpenSpec.ofChange partPointsWrong)

/-- 'umlautlaw03.PartWhole': WHATEVER THE INPUT: true; the input reads as it did. -/
def partWholeSpec : ChangeSpec := { name := "partWhole", fn := fun _ => fun
  | [d1, d2, d3] => { results := [.lit (.bool true)], args := [d1, d2, d3] }
  | _ => none }
def partWholeRow : OpenClaim := { program := "ytjlmlomedcnhkaa", sum := "9e0f00e3d7091d042db92412571d358fd64191152136ff4f3dc4af4cf75e0328", func := "umlaut/umlautlaw03.PartWhole", spec := "partWhole", unfollowed := true, recurses := true, apart := false }
def PartWholeSaid : Prop := partWholeRow.holds Try.pinned (OpenSpec.ofChange partWholeSpec)

/-- ITS FALSE NEIGHBOUR: 'it returns false'. Refute it at one input. -/
def partWholeWrong : ChangeSpec := { name := "partWhole", fn := fun _ => fun
  | [d1, d2, d3] => { results := [.lit (.bool false)], args := [d1, d2, d3] }
  | _ => none }
def PartWholeWrongFalsely : Prop := partWholeRow.holds Try.pinned (OpenSpec.ofChange partWholeWrong)

/-- 'umlautlaw03.PartDigits': WHATEVER THE INPUT: true; the input reads as it did. -/
def partDigitsSpec : ChangeSpec := { name := "partDigits", fn := fun _ => fun
  | [d1, d2] => { results := [.lit (.bool true)], args := [d1, d2] }
  | _ => none }
def partDigitsRow : OpenClaim := { program := "ytjlmlomedcnhkaa", sum := "9e0f00e3d7091d042db92412571d358fd64191152136ff4f3dc4af4cf75e0328", func := "umlaut/umlautlaw03.PartDigits", spec := "partDigits", unfollowed := true, recurses := true, apart := false }
def PartDigitsSaid : Prop := partDigitsRow.holds Try.pinned (OpenSpec.ofChange partDigitsSpec)

/-- ITS FALSE NEIGHBOUR: 'it returns false'. Refute it at one input. -/
def partDigitsWrong : ChangeSpec := { name := "partDigits", fn := fun _ => fun
  | [d1, d2] => { results := [.lit (.bool false)], args := [d1, d2] }
  | _ => none }
def PartDigitsWrongFalsely : Prop := partDigitsRow.holds Try.pinned (OpenSpec.ofChange partDigitsWrong)

/- THE SECOND FORM. 'bulk': how many values and letters a reading holds, each counted each time it is reached (what is shared counts as often as it is met; a slice's spare places count too). A statement '..UptoSaid' is the law's where the arguments, and the package variables that the reading takes, are together of bulk at most 1048576: NARROWER than '..Said'. Prove '..Said' where nothing that the law and all that it calls make is longer than what came in: it says more and counts as full. Else prove '..UptoSaid'. A law counts once. -/
mutual
def uptoBulk {H : Type} : DataW H → Nat
  | .lit (.string bytes) => bytes.length + 1
  | .lit _ => 1
  | .nil => 1
  | .ptr d => uptoBulk d + 1
  | .slice elems spare => uptoBulkAll elems + uptoBulkAll spare + 1
  | .agg parts => uptoBulkAll parts + 1
  | .iface _ d => uptoBulk d + 1
  | .map entries => uptoBulkEntries entries + 1
  | .held _ => 1
def uptoBulkAll {H : Type} : List (DataW H) → Nat
  | [] => 0
  | d :: r => uptoBulk d + uptoBulkAll r
def uptoBulkEntries {H : Type} : List (Lit × DataW H) → Nat
  | [] => 0
  | x :: r => uptoBulkEntry x + uptoBulkEntries r
def uptoBulkEntry {H : Type} : Lit × DataW H → Nat
  | (.string bytes, d) => bytes.length + uptoBulk d + 1
  | (_, d) => uptoBulk d + 1
 end
def uptoSmall : (H : Type) → List (DataW H) → Bool := fun _ ds => decide (uptoBulkAll ds ≤ 1048576)
def OpenSpec.upto (s : _root_.Go.ChangeSpec) : _root_.Go.OpenSpec := { _root_.Go.OpenSpec.ofChange s with cond := some uptoSmall }

/-- 'umlautlaw01.SpanEach', WHERE WHAT IT READS IS OF BULK AT MOST 1048576: true; the input reads as it did. -/
def spanEachUptoRow : OpenClaim := { program := "ytjlmlomedcnhkaa", sum := "9e0f00e3d7091d042db92412571d358fd64191152136ff4f3dc4af4cf75e0328", func := "umlaut/umlautlaw01.SpanEach", spec := "spanEach", unfollowed := true, recurses := true, apart := false, narrowed := true }
def SpanEachUptoSaid : Prop := spanEachUptoRow.holds Try.pinned (OpenSpec.upto spanEachSpec)

/-- 'umlautlaw02.WordLists', WHERE WHAT IT READS IS OF BULK AT MOST 1048576: true; the input reads as it did. -/
def wordListsUptoRow : OpenClaim := { program := "ytjlmlomedcnhkaa", sum := "9e0f00e3d7091d042db92412571d358fd64191152136ff4f3dc4af4cf75e0328", func := "umlaut/umlautlaw02.WordLists", spec := "wordLists", unfollowed := true, recurses := true, apart := false, narrowed := true }
def WordListsUptoSaid : Prop := wordListsUptoRow.holds Try.pinned (OpenSpec.upto wordListsSpec)

/-- 'umlautlaw03.PartValues', WHERE WHAT IT READS IS OF BULK AT MOST 1048576: true; the input reads as it did. -/
def partValuesUptoRow : OpenClaim := { program := "ytjlmlomedcnhkaa", sum := "9e0f00e3d7091d042db92412571d358fd64191152136ff4f3dc4af4cf75e0328", func := "umlaut/umlautlaw03.PartValues", spec := "partValues", unfollowed := true, recurses := true, apart := false, narrowed := true }
def PartValuesUptoSaid : Prop := partValuesUptoRow.holds Try.pinned (OpenSpec.upto partValuesSpec)

/-- 'umlautlaw03.PartImages', WHERE WHAT IT READS IS OF BULK AT MOST 1048576: true; the input reads as it did. -/
def partImagesUptoRow : OpenClaim := { program := "ytjlmlomedcnhkaa", sum := "9e0f00e3d7091d042db92412571d358fd64191152136ff4f3dc4af4cf75e0328", func := "umlaut/umlautlaw03.PartImages", spec := "partImages", unfollowed := true, recurses := true, apart := false, narrowed := true }
def PartImagesUptoSaid : Prop := partImagesUptoRow.holds Try.pinned (OpenSpec.upto partImagesSpec)

/-- 'umlautlaw03.PartPres', WHERE WHAT IT READS IS OF BULK AT MOST 1048576: true; the input reads as it did. -/
def partPresUptoRow : OpenClaim := { program := "ytjlmlomedcnhkaa", sum := "9e0f00e3d7091d042db92412571d358fd64191152136ff4f3dc4af4cf75e0328", func := "umlaut/umlautlaw03.PartPres", spec := "partPres", unfollowed := true, recurses := true, apart := false, narrowed := true }
def PartPresUptoSaid : Prop := partPresUptoRow.holds Try.pinned (OpenSpec.upto partPresSpec)

/-- 'umlautlaw03.PartPoints', WHERE WHAT IT READS IS OF BULK AT MOST 1048576: true; the input reads as it did. -/
def partPointsUptoRow : OpenClaim := { program := "ytjlmlomedcnhkaa", sum := "9e0f00e3d7091d042db92412571d358fd64191152136ff4f3dc4af4cf75e0328", func := "umlaut/umlautlaw03.PartPoints", spec := "partPoints", unfollowed := true, recurses := true, apart := false, narrowed := true }
def PartPointsUptoSaid : Prop := partPointsUptoRow.holds Try.pinned (OpenSpec.upto partPointsSpec)

/-- 'umlautlaw03.PartWhole', WHERE WHAT IT READS IS OF BULK AT MOST 1048576: true; the input reads as it did. -/
def partWholeUptoRow : OpenClaim := { program := "ytjlmlomedcnhkaa", sum := "9e0f00e3d7091d042db92412571d358fd64191152136ff4f3dc4af4cf75e0328", func := "umlaut/umlautlaw03.PartWhole", spec := "partWhole", unfollowed := true, recurses := true, apart := false, narrowed := true }
def PartWholeUptoSaid : Prop := partWholeUptoRow.holds Try.pinned (OpenSpec.upto partWholeSpec)

/-- 'umlautlaw03.PartDigits', WHERE WHAT IT READS IS OF BULK AT MOST 1048576: true; the input reads as it did. -/
def partDigitsUptoRow : OpenClaim := { program := "ytjlmlomedcnhkaa", sum := "9e0f00e3d7091d042db92412571d358fd64191152136ff4f3dc4af4cf75e0328", func := "umlaut/umlautlaw03.PartDigits", spec := "partDigits", unfollowed := true, recurses := true, apart := false, narrowed := true }
def PartDigitsUptoSaid : Prop := partDigitsUptoRow.holds Try.pinned (OpenSpec.upto partDigitsSpec)

end Rows
end Go.Proofs.Ytjlmlomedcnhkaa
