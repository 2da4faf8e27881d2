/-
  No cell of these rows narrows 'for every input' (looked for: loops, veiled, ifaces, maps, wideKeys, modest, calm, conditions, laid).
  DERIVED. THE GIVEN ROWS OF THIS SEAT. 9 by the template 'for every input the law returns true; each argument reads behind the call as it read before'; 0 by the template 'total and deterministic' (their statements: YtplpafoflibnlaaTotals.lean).
  GIVEN WITH THE SEED: the statements are not yours to turn. If you find one false, say at which input.
  Laid BY PROGRAM, IN A SANDBOX (cutbox-rows.mjs): the forced cells as the released guide's own fill.sh prints them over the translation 24ff163f01ea7afd… (all of the seat's roots in one cut). By AI agents, Wed Nov 11 2026. No macro, syntax, notation, axiom, sorry.
-/
import Derived.Test.YtplpafoflibnlaaChecked
import GoSem.Claim
import GoSem.ClaimJoined
import GoSem.ClaimMapViews
import Derived.JoinedTies
import Derived.KernelRfl
namespace Go.Proofs.Ytplpafoflibnlaa
/- THE CELL 'sum', in the pinned program and in every row, IS THE sha256 OF THE DUMP (.gsa) THAT YtplpafoflibnlaaProg.lean LOADS. Nothing in Lean hashes anything: it is a label: what it is worth is what the hold of that sum in a sandbox is worth. -/
noncomputable def Try.pinned : Pinned := { name := "ytplpafoflibnlaa", sum := "24ff163f01ea7afdaebf2cfe94235cff6d162860d549b40c360f551d287fa0f4", checked := Try.checked }
namespace Rows
def none {H : Type} : Left H := { results := [], args := [] }

/-- 'umlautlaw04.TermPres': WHATEVER THE INPUT: true; the input reads as it did. -/
def termPresSpec : ChangeSpec := { name := "termPres", fn := fun _ => fun
  | [d1, d2, d3] => { results := [.lit (.bool true)], args := [d1, d2, d3] }
  | _ => none }
def termPresRow : OpenClaim := { program := "ytplpafoflibnlaa", sum := "24ff163f01ea7afdaebf2cfe94235cff6d162860d549b40c360f551d287fa0f4", func := "umlaut/umlautlaw04.TermPres", spec := "termPres", unfollowed := true, recurses := true, apart := false }
def TermPresSaid : Prop := termPresRow.holds Try.pinned (OpenSpec.ofChange termPresSpec)

/-- ITS FALSE NEIGHBOUR: 'it returns false'. Refute it at one input. -/
def termPresWrong : ChangeSpec := { name := "termPres", fn := fun _ => fun
  | [d1, d2, d3] => { results := [.lit (.bool false)], args := [d1, d2, d3] }
  | _ => none }
def TermPresWrongFalsely : Prop := termPresRow.holds Try.pinned (OpenSpec.ofChange termPresWrong)

/-- 'umlautlaw04.TermEquals': WHATEVER THE INPUT: true; the input reads as it did. -/
def termEqualsSpec : ChangeSpec := { name := "termEquals", fn := fun _ => fun
  | [d1, d2, d3] => { results := [.lit (.bool true)], args := [d1, d2, d3] }
  | _ => none }
def termEqualsRow : OpenClaim := { program := "ytplpafoflibnlaa", sum := "24ff163f01ea7afdaebf2cfe94235cff6d162860d549b40c360f551d287fa0f4", func := "umlaut/umlautlaw04.TermEquals", spec := "termEquals", unfollowed := true, recurses := true, apart := false }
def TermEqualsSaid : Prop := termEqualsRow.holds Try.pinned (OpenSpec.ofChange termEqualsSpec)

/-- ITS FALSE NEIGHBOUR: 'it returns false'. Refute it at one input. -/
def termEqualsWrong : ChangeSpec := { name := "termEquals", fn := fun _ => fun
  | [d1, d2, d3] => { results := [.lit (.bool false)], args := [d1, d2, d3] }
  | _ => none }
def TermEqualsWrongFalsely : Prop := termEqualsRow.holds Try.pinned (OpenSpec.ofChange termEqualsWrong)

/-- 'umlautlaw04.TermFar': WHATEVER THE INPUT: true; the input reads as it did. -/
def termFarSpec : ChangeSpec := { name := "termFar", fn := fun _ => fun
  | [d1, d2, d3, d4, d5] => { results := [.lit (.bool true)], args := [d1, d2, d3, d4, d5] }
  | _ => none }
def termFarRow : OpenClaim := { program := "ytplpafoflibnlaa", sum := "24ff163f01ea7afdaebf2cfe94235cff6d162860d549b40c360f551d287fa0f4", func := "umlaut/umlautlaw04.TermFar", spec := "termFar", unfollowed := true, recurses := true, apart := false }
def TermFarSaid : Prop := termFarRow.holds Try.pinned (OpenSpec.ofChange termFarSpec)

/-- ITS FALSE NEIGHBOUR: 'it returns false'. Refute it at one input. -/
def termFarWrong : ChangeSpec := { name := "termFar", fn := fun _ => fun
  | [d1, d2, d3, d4, d5] => { results := [.lit (.bool false)], args := [d1, d2, d3, d4, d5] }
  | _ => none }
def TermFarWrongFalsely : Prop := termFarRow.holds Try.pinned (OpenSpec.ofChange termFarWrong)

/-- 'umlautlaw05.MintermSplits': WHATEVER THE INPUT: true; the input reads as it did. -/
def mintermSplitsSpec : ChangeSpec := { name := "mintermSplits", fn := fun _ => fun
  | [d1, d2] => { results := [.lit (.bool true)], args := [d1, d2] }
  | _ => none }
def mintermSplitsRow : OpenClaim := { program := "ytplpafoflibnlaa", sum := "24ff163f01ea7afdaebf2cfe94235cff6d162860d549b40c360f551d287fa0f4", func := "umlaut/umlautlaw05.MintermSplits", spec := "mintermSplits", unfollowed := true, recurses := true, apart := false }
def MintermSplitsSaid : Prop := mintermSplitsRow.holds Try.pinned (OpenSpec.ofChange mintermSplitsSpec)

/-- ITS FALSE NEIGHBOUR: 'it returns false'. Refute it at one input. -/
def mintermSplitsWrong : ChangeSpec := { name := "mintermSplits", fn := fun _ => fun
  | [d1, d2] => { results := [.lit (.bool false)], args := [d1, d2] }
  | _ => none }
def MintermSplitsWrongFalsely : Prop := mintermSplitsRow.holds Try.pinned (OpenSpec.ofChange mintermSplitsWrong)

/-- 'umlautlaw05.MintermClasses': WHATEVER THE INPUT: true; the input reads as it did. -/
def mintermClassesSpec : ChangeSpec := { name := "mintermClasses", fn := fun _ => fun
  | [d1, d2] => { results := [.lit (.bool true)], args := [d1, d2] }
  | _ => none }
def mintermClassesRow : OpenClaim := { program := "ytplpafoflibnlaa", sum := "24ff163f01ea7afdaebf2cfe94235cff6d162860d549b40c360f551d287fa0f4", func := "umlaut/umlautlaw05.MintermClasses", spec := "mintermClasses", unfollowed := true, recurses := true, apart := false }
def MintermClassesSaid : Prop := mintermClassesRow.holds Try.pinned (OpenSpec.ofChange mintermClassesSpec)

/-- ITS FALSE NEIGHBOUR: 'it returns false'. Refute it at one input. -/
def mintermClassesWrong : ChangeSpec := { name := "mintermClasses", fn := fun _ => fun
  | [d1, d2] => { results := [.lit (.bool false)], args := [d1, d2] }
  | _ => none }
def MintermClassesWrongFalsely : Prop := mintermClassesRow.holds Try.pinned (OpenSpec.ofChange mintermClassesWrong)

/-- 'umlautlaw05.MintermRows': WHATEVER THE INPUT: true; the input reads as it did. -/
def mintermRowsSpec : ChangeSpec := { name := "mintermRows", fn := fun _ => fun
  | [d] => { results := [.lit (.bool true)], args := [d] }
  | _ => none }
def mintermRowsRow : OpenClaim := { program := "ytplpafoflibnlaa", sum := "24ff163f01ea7afdaebf2cfe94235cff6d162860d549b40c360f551d287fa0f4", func := "umlaut/umlautlaw05.MintermRows", spec := "mintermRows", unfollowed := true, recurses := true, apart := false }
def MintermRowsSaid : Prop := mintermRowsRow.holds Try.pinned (OpenSpec.ofChange mintermRowsSpec)

/-- ITS FALSE NEIGHBOUR: 'it returns false'. Refute it at one input. -/
def mintermRowsWrong : ChangeSpec := { name := "mintermRows", fn := fun _ => fun
  | [d] => { results := [.lit (.bool false)], args := [d] }
  | _ => none }
def MintermRowsWrongFalsely : Prop := mintermRowsRow.holds Try.pinned (OpenSpec.ofChange mintermRowsWrong)

/-- 'umlautlaw05.MintermTells': WHATEVER THE INPUT: true; the input reads as it did. -/
def mintermTellsSpec : ChangeSpec := { name := "mintermTells", fn := fun _ => fun
  | [d1, d2, d3, d4] => { results := [.lit (.bool true)], args := [d1, d2, d3, d4] }
  | _ => none }
def mintermTellsRow : OpenClaim := { program := "ytplpafoflibnlaa", sum := "24ff163f01ea7afdaebf2cfe94235cff6d162860d549b40c360f551d287fa0f4", func := "umlaut/umlautlaw05.MintermTells", spec := "mintermTells", unfollowed := true, recurses := true, apart := false }
def MintermTellsSaid : Prop := mintermTellsRow.holds Try.pinned (OpenSpec.ofChange mintermTellsSpec)

/-- ITS FALSE NEIGHBOUR: 'it returns false'. Refute it at one input. -/
def mintermTellsWrong : ChangeSpec := { name := "mintermTells", fn := fun _ => fun
  | [d1, d2, d3, d4] => { results := [.lit (.bool false)], args := [d1, d2, d3, d4] }
  | _ => none }
def MintermTellsWrongFalsely : Prop := mintermTellsRow.holds Try.pinned (OpenSpec.ofChange mintermTellsWrong)

/-- 'umlautlaw05.MintermUnions': WHATEVER THE INPUT: true; the input reads as it did. -/
def mintermUnionsSpec : ChangeSpec := { name := "mintermUnions", fn := fun _ => fun
  | [d1, d2] => { results := [.lit (.bool true)], args := [d1, d2] }
  | _ => none }
def mintermUnionsRow : OpenClaim := { program := "ytplpafoflibnlaa", sum := "24ff163f01ea7afdaebf2cfe94235cff6d162860d549b40c360f551d287fa0f4", func := "umlaut/umlautlaw05.MintermUnions", spec := "mintermUnions", unfollowed := true, recurses := true, apart := false }
def MintermUnionsSaid : Prop := mintermUnionsRow.holds Try.pinned (OpenSpec.ofChange mintermUnionsSpec)

/-- ITS FALSE NEIGHBOUR: 'it returns false'. Refute it at one input. -/
def mintermUnionsWrong : ChangeSpec := { name := "mintermUnions", fn := fun _ => fun
  | [d1, d2] => { results := [.lit (.bool false)], args := [d1, d2] }
  | _ => none }
def MintermUnionsWrongFalsely : Prop := mintermUnionsRow.holds Try.pinned (OpenSpec.ofChange mintermUnionsWrong)

/-- 'umlautlaw05.MintermMany': WHATEVER THE INPUT: true; the input reads as it did. -/
def mintermManySpec : ChangeSpec := { name := "mintermMany", fn := fun _ => fun
  | [d] => { results := [.lit (.bool true)], args := [d] }
  | _ => none }
def mintermManyRow : OpenClaim := { program := "ytplpafoflibnlaa", sum := "24ff163f01ea7afdaebf2cfe94235cff6d162860d549b40c360f551d287fa0f4", func := "umlaut/umlautlaw05.MintermMany", spec := "mintermMany", unfollowed := true, recurses := true, apart := false }
def MintermManySaid : Prop := mintermManyRow.holds Try.pinned (OpenSpec.ofChange mintermManySpec)

/-- ITS FALSE NEIGHBOUR: 'it returns false'. Refute it at one input. -/
def mintermManyWrong : ChangeSpec := { name := "mintermMany", fn := fun _ => fun
  | [d] => { results := [.lit (.bool false)], args := [d] }
  | _ => none }
def MintermManyWrongFalsely : Prop := mintermManyRow.holds Try.pinned (OpenSpec.ofChange mintermManyWrong)

/- THE SECOND FORM. 'bulk': how many values and letters a reading holds, each counted each time it is reached (what is shared counts as often as it is met; a slice's spare places count too). A statement '..UptoSaid' is the law's where the arguments, and the package variables that the reading takes, are together of bulk at most 1048576: NARROWER than '..Said'. Prove '..Said' where nothing that the law and all that it calls make is longer than what came in: it says more and counts as full. Else prove '..UptoSaid'. A law counts once. -/
mutual
def uptoBulk {H : Type} : DataW H → Nat
  | .lit (.string bytes) => bytes.length + 1
  | .lit _ => 1
  | .nil => 1
  | .ptr d => uptoBulk d + 1
  | .slice elems spare => uptoBulkAll elems + uptoBulkAll spare + 1
  | .agg parts => uptoBulkAll parts + 1
  | .iface _ d => uptoBulk d + 1
  | .map entries => uptoBulkEntries entries + 1
  | .held _ => 1
def uptoBulkAll {H : Type} : List (DataW H) → Nat
  | [] => 0
  | d :: r => uptoBulk d + uptoBulkAll r
def uptoBulkEntries {H : Type} : List (Lit × DataW H) → Nat
  | [] => 0
  | x :: r => uptoBulkEntry x + uptoBulkEntries r
def uptoBulkEntry {H : Type} : Lit × DataW H → Nat
  | (.string bytes, d) => bytes.length + uptoBulk d + 1
  | (_, d) => uptoBulk d + 1
 end
def uptoSmall : (H : Type) → List (DataW H) → Bool := fun _ ds => decide (uptoBulkAll ds ≤ 1048576)
def OpenSpec.upto (s : _root_.Go.ChangeSpec) : _root_.Go.OpenSpec := { _root_.Go.OpenSpec.ofChange s with cond := some uptoSmall }

/-- 'umlautlaw04.TermPres', WHERE WHAT IT READS IS OF BULK AT MOST 1048576: true; the input reads as it did. -/
def termPresUptoRow : OpenClaim := { program := "ytplpafoflibnlaa", sum := "24ff163f01ea7afdaebf2cfe94235cff6d162860d549b40c360f551d287fa0f4", func := "umlaut/umlautlaw04.TermPres", spec := "termPres", unfollowed := true, recurses := true, apart := false, narrowed := true }
def TermPresUptoSaid : Prop := termPresUptoRow.holds Try.pinned (OpenSpec.upto termPresSpec)

/-- 'umlautlaw04.TermEquals', WHERE WHAT IT READS IS OF BULK AT MOST 1048576: true; the input reads as it did. -/
def termEqualsUptoRow : OpenClaim := { program := "ytplpafoflibnlaa", sum := "24ff163f01ea7afdaebf2cfe94235cff6d162860d549b40c360f551d287fa0f4", func := "umlaut/umlautlaw04.TermEquals", spec := "termEquals", unfollowed := true, recurses := true, apart := false, narrowed := true }
def TermEqualsUptoSaid : Prop := termEqualsUptoRow.holds Try.pinned (OpenSpec.upto termEqualsSpec)

/-- 'umlautlaw04.TermFar', WHERE WHAT IT READS IS OF BULK AT MOST 1048576: true; the input reads as it did. -/
def termFarUptoRow : OpenClaim := { program := "ytplpafoflibnlaa", sum := "24ff163f01ea7afdaebf2cfe94235cff6d162860d549b40c360f551d287fa0f4", func := "umlaut/umlautlaw04.TermFar", spec := "termFar", unfollowed := true, recurses := true, apart := false, narrowed := true }
def TermFarUptoSaid : Prop := termFarUptoRow.holds Try.pinned (OpenSpec.upto termFarSpec)

/-- 'umlautlaw05.MintermSplits', WHERE WHAT IT READS IS OF BULK AT MOST 1048576: true; the input reads as it did. -/
def mintermSplitsUptoRow : OpenClaim := { program := "ytplpafoflibnlaa", sum := "24ff163f01ea7afdaebf2cfe94235cff6d162860d549b40c360f551d287fa0f4", func := "umlaut/umlautlaw05.MintermSplits", spec := "mintermSplits", unfollowed := true, recurses := true, apart := false, narrowed := true }
def MintermSplitsUptoSaid : Prop := mintermSplitsUptoRow.holds Try.pinned (OpenSpec.upto mintermSplitsSpec)

/-- 'umlautlaw05.MintermClasses', WHERE WHAT IT READS IS OF BULK AT MOST 1048576: true; the input reads as it did. -/
def mintermClassesUptoRow : OpenClaim := { program := "ytplpafoflibnlaa", sum := "24ff163f01ea7afdaebf2cfe94235cff6d162860d549b40c360f551d287fa0f4", func := "umlaut/umlautlaw05.MintermClasses", spec := "mintermClasses", unfollowed := true, recurses := true, apart := false, narrowed := true }
def MintermClassesUptoSaid : Prop := mintermClassesUptoRow.holds Try.pinned (OpenSpec.upto mintermClassesSpec)

/-- 'umlautlaw05.MintermRows', WHERE WHAT IT READS IS OF BULK AT MOST 1048576: true; the input reads as it did. -/
def mintermRowsUptoRow : OpenClaim := { program := "ytplpafoflibnlaa", sum := "24ff163f01ea7afdaebf2cfe94235cff6d162860d549b40c360f551d287fa0f4", func := "umlaut/umlautlaw05.MintermRows", spec := "mintermRows", unfollowed := true, recurses := true, apart := false, narrowed := true }
def MintermRowsUptoSaid : Prop := mintermRowsUptoRow.holds Try.pinned (OpenSpec.upto mintermRowsSpec)

/-- 'umlautlaw05.MintermTells', WHERE WHAT IT READS IS OF BULK AT MOST 1048576: true; the input reads as it did. -/
def mintermTellsUptoRow : OpenClaim := { program := "ytplpafoflibnlaa", sum := "24ff163f01ea7afdaebf2cfe94235cff6d162860d549b40c360f551d287fa0f4", func := "umlaut/umlautlaw05.MintermTells", spec := "mintermTells", unfollowed := true, recurses := true, apart := false, narrowed := true }
def MintermTellsUptoSaid : Prop := mintermTellsUptoRow.holds Try.pinned (OpenSpec.upto mintermTellsSpec)

/-- 'umlautlaw05.MintermUnions', WHERE WHAT IT READS IS OF BULK AT MOST 1048576: true; the input reads as it did. -/
def mintermUnionsUptoRow : OpenClaim := { program := "ytplpafoflibnlaa", sum := "24ff163f01ea7afdaebf2cfe94235cff6d162860d549b40c360f551d287fa0f4", func := "umlaut/umlautlaw05.MintermUnions", spec := "mintermUnions", unfollowed := true, recurses := true, apart := false, narrowed := true }
def MintermUnionsUptoSaid : Prop := mintermUnionsUptoRow.holds Try.pinned (OpenSpec.upto mintermUnionsSpec)

/-- 'umlautlaw05.MintermMany', WHERE WHAT IT READS IS OF BULK AT MOST 1048576: true; the input reads as it did. -/
def mintermManyUptoRow : OpenClaim := { program := "ytplpafoflibnlaa", sum := "24ff163f01ea7afdaebf2cfe94235cff6d162860d549b40c360f551d287fa0f4", func := "umlaut/umlautlaw05.MintermMany", spec := "mintermMany", unfollowed := true, recurses := true, apart := false, narrowed := true }
def MintermManyUptoSaid : Prop := mintermManyUptoRow.holds Try.pinned (OpenSpec.upto mintermManySpec)

end Rows
end Go.Proofs.Ytplpafoflibnlaa
