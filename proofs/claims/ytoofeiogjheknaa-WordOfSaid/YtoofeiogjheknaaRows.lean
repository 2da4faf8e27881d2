/-
  No cell of these rows narrows 'for every input' (looked for: loops, veiled, ifaces, maps, wideKeys, modest, calm, conditions, laid).
  DERIVED. THE GIVEN ROWS OF THIS SEAT. 7 by the template 'for every input the law returns true; each argument reads behind the call as it read before'; 0 by the template 'total and deterministic' (their statements: YtoofeiogjheknaaTotals.lean).
  GIVEN WITH THE SEED: the statements are not yours to turn. If you find one false, say at which input.
  Laid BY PROGRAM, IN A SANDBOX (cutbox-rows.mjs): the forced cells as the released guide's own fill.sh prints them over the translation a56484fcbb495c5f… (all of the seat's roots in one cut). By AI agents, Wed Nov 11 2026. No macro, syntax, notation, axiom, sorry.
-/
import Derived.Test.YtoofeiogjheknaaChecked
import GoSem.Claim
import GoSem.ClaimJoined
import GoSem.ClaimMapViews
import Derived.JoinedTies
import Derived.KernelRfl
namespace Go.Proofs.Ytoofeiogjheknaa
/- THE CELL 'sum', in the pinned program and in every row, IS THE sha256 OF THE DUMP (.gsa) THAT YtoofeiogjheknaaProg.lean LOADS. Nothing in Lean hashes anything: it is a label: what it is worth is what the hold of that sum in a sandbox is worth. -/
noncomputable def Try.pinned : Pinned := { name := "ytoofeiogjheknaa", sum := "a56484fcbb495c5f331783d3447f67b4dd36e97a8b71d522c5ff3f2a5d2cf10f", checked := Try.checked }
namespace Rows
def none {H : Type} : Left H := { results := [], args := [] }

/-- 'umlautlaw02.WordTexts': WHATEVER THE INPUT: true; the input reads as it did. -/
def wordTextsSpec : ChangeSpec := { name := "wordTexts", fn := fun _ => fun
  | [d] => { results := [.lit (.bool true)], args := [d] }
  | _ => none }
def wordTextsRow : OpenClaim := { program := "ytoofeiogjheknaa", sum := "a56484fcbb495c5f331783d3447f67b4dd36e97a8b71d522c5ff3f2a5d2cf10f", func := "umlaut/umlautlaw02.WordTexts", spec := "wordTexts", apart := false }
def WordTextsSaid : Prop := wordTextsRow.holds Try.pinned (OpenSpec.ofChange wordTextsSpec)

/-- ITS FALSE NEIGHBOUR: 'it returns false'. Refute it at one input. -/
def wordTextsWrong : ChangeSpec := { name := "wordTexts", fn := fun _ => fun
  | [d] => { results := [.lit (.bool false)], args := [d] }
  | _ => none }
def WordTextsWrongFalsely : Prop := wordTextsRow.holds Try.pinned (OpenSpec.ofChange wordTextsWrong)

/-- 'umlautlaw02.WordOf': WHATEVER THE INPUT: true; the input reads as it did. -/
def wordOfSpec : ChangeSpec := { name := "wordOf", fn := fun _ => fun
  | [d] => { results := [.lit (.bool true)], args := [d] }
  | _ => none }
def wordOfRow : OpenClaim := { program := "ytoofeiogjheknaa", sum := "a56484fcbb495c5f331783d3447f67b4dd36e97a8b71d522c5ff3f2a5d2cf10f", func := "umlaut/umlautlaw02.WordOf", spec := "wordOf", apart := false }
def WordOfSaid : Prop := wordOfRow.holds Try.pinned (OpenSpec.ofChange wordOfSpec)

/-- ITS FALSE NEIGHBOUR: 'it returns false'. Refute it at one input. -/
def wordOfWrong : ChangeSpec := { name := "wordOf", fn := fun _ => fun
  | [d] => { results := [.lit (.bool false)], args := [d] }
  | _ => none }
def WordOfWrongFalsely : Prop := wordOfRow.holds Try.pinned (OpenSpec.ofChange wordOfWrong)

/-- 'umlautlaw02.WordRaws': WHATEVER THE INPUT: true; the input reads as it did. -/
def wordRawsSpec : ChangeSpec := { name := "wordRaws", fn := fun _ => fun
  | [d1, d2] => { results := [.lit (.bool true)], args := [d1, d2] }
  | _ => none }
def wordRawsRow : OpenClaim := { program := "ytoofeiogjheknaa", sum := "a56484fcbb495c5f331783d3447f67b4dd36e97a8b71d522c5ff3f2a5d2cf10f", func := "umlaut/umlautlaw02.WordRaws", spec := "wordRaws", apart := false }
def WordRawsSaid : Prop := wordRawsRow.holds Try.pinned (OpenSpec.ofChange wordRawsSpec)

/-- ITS FALSE NEIGHBOUR: 'it returns false'. Refute it at one input. -/
def wordRawsWrong : ChangeSpec := { name := "wordRaws", fn := fun _ => fun
  | [d1, d2] => { results := [.lit (.bool false)], args := [d1, d2] }
  | _ => none }
def WordRawsWrongFalsely : Prop := wordRawsRow.holds Try.pinned (OpenSpec.ofChange wordRawsWrong)

/-- 'umlautlaw02.WordSorts': WHATEVER THE INPUT: true; the input reads as it did. -/
def wordSortsSpec : ChangeSpec := { name := "wordSorts", fn := fun _ => fun
  | [d1, d2, d3] => { results := [.lit (.bool true)], args := [d1, d2, d3] }
  | _ => none }
def wordSortsRow : OpenClaim := { program := "ytoofeiogjheknaa", sum := "a56484fcbb495c5f331783d3447f67b4dd36e97a8b71d522c5ff3f2a5d2cf10f", func := "umlaut/umlautlaw02.WordSorts", spec := "wordSorts", apart := false }
def WordSortsSaid : Prop := wordSortsRow.holds Try.pinned (OpenSpec.ofChange wordSortsSpec)

/-- ITS FALSE NEIGHBOUR: 'it returns false'. Refute it at one input. -/
def wordSortsWrong : ChangeSpec := { name := "wordSorts", fn := fun _ => fun
  | [d1, d2, d3] => { results := [.lit (.bool false)], args := [d1, d2, d3] }
  | _ => none }
def WordSortsWrongFalsely : Prop := wordSortsRow.holds Try.pinned (OpenSpec.ofChange wordSortsWrong)

/-- 'umlautlaw02.WordOrders': WHATEVER THE INPUT: true; the input reads as it did. -/
def wordOrdersSpec : ChangeSpec := { name := "wordOrders", fn := fun _ => fun
  | [d1, d2] => { results := [.lit (.bool true)], args := [d1, d2] }
  | _ => none }
def wordOrdersRow : OpenClaim := { program := "ytoofeiogjheknaa", sum := "a56484fcbb495c5f331783d3447f67b4dd36e97a8b71d522c5ff3f2a5d2cf10f", func := "umlaut/umlautlaw02.WordOrders", spec := "wordOrders", apart := false }
def WordOrdersSaid : Prop := wordOrdersRow.holds Try.pinned (OpenSpec.ofChange wordOrdersSpec)

/-- ITS FALSE NEIGHBOUR: 'it returns false'. Refute it at one input. -/
def wordOrdersWrong : ChangeSpec := { name := "wordOrders", fn := fun _ => fun
  | [d1, d2] => { results := [.lit (.bool false)], args := [d1, d2] }
  | _ => none }
def WordOrdersWrongFalsely : Prop := wordOrdersRow.holds Try.pinned (OpenSpec.ofChange wordOrdersWrong)

/-- 'umlautlaw02.WordLists': WHATEVER THE INPUT: true; the input reads as it did. -/
def wordListsSpec : ChangeSpec := { name := "wordLists", fn := fun _ => fun
  | [d] => { results := [.lit (.bool true)], args := [d] }
  | _ => none }
def wordListsRow : OpenClaim := { program := "ytoofeiogjheknaa", sum := "a56484fcbb495c5f331783d3447f67b4dd36e97a8b71d522c5ff3f2a5d2cf10f", func := "umlaut/umlautlaw02.WordLists", spec := "wordLists", unfollowed := true, recurses := true, apart := false }
def WordListsSaid : Prop := wordListsRow.holds Try.pinned (OpenSpec.ofChange wordListsSpec)

/-- ITS FALSE NEIGHBOUR: 'it returns false'. Refute it at one input. -/
def wordListsWrong : ChangeSpec := { name := "wordLists", fn := fun _ => fun
  | [d] => { results := [.lit (.bool false)], args := [d] }
  | _ => none }
def WordListsWrongFalsely : Prop := wordListsRow.holds Try.pinned (OpenSpec.ofChange wordListsWrong)

/-- 'umlautlaw02.WordBack': WHATEVER THE INPUT: true; the input reads as it did. -/
def wordBackSpec : ChangeSpec := { name := "wordBack", fn := fun _ => fun
  | [d1, d2] => { results := [.lit (.bool true)], args := [d1, d2] }
  | _ => none }
def wordBackRow : OpenClaim := { program := "ytoofeiogjheknaa", sum := "a56484fcbb495c5f331783d3447f67b4dd36e97a8b71d522c5ff3f2a5d2cf10f", func := "umlaut/umlautlaw02.WordBack", spec := "wordBack", apart := false }
def WordBackSaid : Prop := wordBackRow.holds Try.pinned (OpenSpec.ofChange wordBackSpec)

/-- ITS FALSE NEIGHBOUR: 'it returns false'. Refute it at one input. -/
def wordBackWrong : ChangeSpec := { name := "wordBack", fn := fun _ => fun
  | [d1, d2] => { results := [.lit (.bool false)], args := [d1, d2] }
  | _ => none }
def WordBackWrongFalsely : Prop := wordBackRow.holds Try.pinned (OpenSpec.ofChange wordBackWrong)

/- THE SECOND FORM. 'bulk': how many values and letters a reading holds, each counted each time it is reached (what is shared counts as often as it is met; a slice's spare places count too). A statement '..UptoSaid' is the law's where the arguments, and the package variables that the reading takes, are together of bulk at most 1048576: NARROWER than '..Said'. Prove '..Said' where nothing that the law and all that it calls make is longer than what came in: it says more and counts as full. Else prove '..UptoSaid'. A law counts once. -/
mutual
def uptoBulk {H : Type} : DataW H → Nat
  | .lit (.string bytes) => bytes.length + 1
  | .lit _ => 1
  | .nil => 1
  | .ptr d => uptoBulk d + 1
  | .slice elems spare => uptoBulkAll elems + uptoBulkAll spare + 1
  | .agg parts => uptoBulkAll parts + 1
  | .iface _ d => uptoBulk d + 1
  | .map entries => uptoBulkEntries entries + 1
  | .held _ => 1
def uptoBulkAll {H : Type} : List (DataW H) → Nat
  | [] => 0
  | d :: r => uptoBulk d + uptoBulkAll r
def uptoBulkEntries {H : Type} : List (Lit × DataW H) → Nat
  | [] => 0
  | x :: r => uptoBulkEntry x + uptoBulkEntries r
def uptoBulkEntry {H : Type} : Lit × DataW H → Nat
  | (.string bytes, d) => bytes.length + uptoBulk d + 1
  | (_, d) => uptoBulk d + 1
 end
def uptoSmall : (H : Type) → List (DataW H) → Bool := fun _ ds => decide (uptoBulkAll ds ≤ 1048576)
def OpenSpec.upto (s : _root_.Go.ChangeSpec) : _root_.Go.OpenSpec := { _root_.Go.OpenSpec.ofChange s with cond := some uptoSmall }

/-- 'umlautlaw02.WordTexts', WHERE WHAT IT READS IS OF BULK AT MOST 1048576: true; the input reads as it did. -/
def wordTextsUptoRow : OpenClaim := { program := "ytoofeiogjheknaa", sum := "a56484fcbb495c5f331783d3447f67b4dd36e97a8b71d522c5ff3f2a5d2cf10f", func := "umlaut/umlautlaw02.WordTexts", spec := "wordTexts", apart := false, narrowed := true }
def WordTextsUptoSaid : Prop := wordTextsUptoRow.holds Try.pinned (OpenSpec.upto wordTextsSpec)

/-- 'umlautlaw02.WordOf', WHERE WHAT IT READS IS OF BULK AT MOST 1048576: true; the input reads as it did. -/
def wordOfUptoRow : OpenClaim := { program := "ytoofeiogjheknaa", sum := "a56484fcbb495c5f331783d3447f67b4dd36e97a8b71d522c5ff3f2a5d2cf10f", func := "umlaut/umlautlaw02.WordOf", spec := "wordOf", apart := false, narrowed := true }
def WordOfUptoSaid : Prop := wordOfUptoRow.holds Try.pinned (OpenSpec.upto wordOfSpec)

/-- 'umlautlaw02.WordRaws', WHERE WHAT IT READS IS OF BULK AT MOST 1048576: true; the input reads as it did. -/
def wordRawsUptoRow : OpenClaim := { program := "ytoofeiogjheknaa", sum := "a56484fcbb495c5f331783d3447f67b4dd36e97a8b71d522c5ff3f2a5d2cf10f", func := "umlaut/umlautlaw02.WordRaws", spec := "wordRaws", apart := false, narrowed := true }
def WordRawsUptoSaid : Prop := wordRawsUptoRow.holds Try.pinned (OpenSpec.upto wordRawsSpec)

/-- 'umlautlaw02.WordSorts', WHERE WHAT IT READS IS OF BULK AT MOST 1048576: true; the input reads as it did. -/
def wordSortsUptoRow : OpenClaim := { program := "ytoofeiogjheknaa", sum := "a56484fcbb495c5f331783d3447f67b4dd36e97a8b71d522c5ff3f2a5d2cf10f", func := "umlaut/umlautlaw02.WordSorts", spec := "wordSorts", apart := false, narrowed := true }
def WordSortsUptoSaid : Prop := wordSortsUptoRow.holds Try.pinned (OpenSpec.upto wordSortsSpec)

/-- 'umlautlaw02.WordOrders', WHERE WHAT IT READS IS OF BULK AT MOST 1048576: true; the input reads as it did. -/
def wordOrdersUptoRow : OpenClaim := { program := "ytoofeiogjheknaa", sum := "a56484fcbb495c5f331783d3447f67b4dd36e97a8b71d522c5ff3f2a5d2cf10f", func := "umlaut/umlautlaw02.WordOrders", spec := "wordOrders", apart := false, narrowed := true }
def WordOrdersUptoSaid : Prop := wordOrdersUptoRow.holds Try.pinned (OpenSpec.upto wordOrdersSpec)

/-- 'umlautlaw02.WordLists', WHERE WHAT IT READS IS OF BULK AT MOST 1048576: true; the input reads as it did. -/
def wordListsUptoRow : OpenClaim := { program := "ytoofeiogjheknaa", sum := "a56484fcbb495c5f331783d3447f67b4dd36e97a8b71d522c5ff3f2a5d2cf10f", func := "umlaut/umlautlaw02.WordLists", spec := "wordLists", unfollowed := true, recurses := true, apart := false, narrowed := true }
def WordListsUptoSaid : Prop := wordListsUptoRow.holds Try.pinned (OpenSpec.upto wordListsSpec)

/-- 'umlautlaw02.WordBack', WHERE WHAT IT READS IS OF BULK AT MOST 1048576: true; the input reads as it did. -/
def wordBackUptoRow : OpenClaim := { program := "ytoofeiogjheknaa", sum := "a56484fcbb495c5f331783d3447f67b4dd36e97a8b71d522c5ff3f2a5d2cf10f", func := "umlaut/umlautlaw02.WordBack", spec := "wordBack", apart := false, narrowed := true }
def WordBackUptoSaid : Prop := wordBackUptoRow.holds Try.pinned (OpenSpec.upto wordBackSpec)

end Rows
end Go.Proofs.Ytoofeiogjheknaa
