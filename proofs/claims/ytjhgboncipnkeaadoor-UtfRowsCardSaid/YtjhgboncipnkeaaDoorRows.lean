/-
  NARROWER THAN 'FOR EVERY INPUT', by the rows' own cells (each row's printed sentence says how): UtfEncodes: laid · UtfScans: laid · UtfDecodes: laid · UtfRows: laid · UtfBack: laid · UtfJoins: laid · UtfParts: laid.
  DERIVED. THE GIVEN ROWS OF THIS SEAT. 7 by the template 'for every input the law returns true; each argument reads behind the call as it read before'; 0 by the template 'total and deterministic' (their statements: YtjhgboncipnkeaaDoorTotals.lean).
  GIVEN WITH THE SEED: the statements are not yours to turn. If you find one false, say at which input.
  Laid BY PROGRAM, IN A SANDBOX (cutbox-rows.mjs): the forced cells as the released guide's own fill.sh prints them over the translation e6bd3756ca48e583… (all of the seat's roots in one cut). By AI agents, Wed Nov 11 2026. No macro, syntax, notation, axiom, sorry.
-/
import Derived.Test.YtjhgboncipnkeaaDoorChecked
import GoSem.Claim
import GoSem.ClaimJoined
import GoSem.ClaimMapViews
import Derived.JoinedTies
import Derived.KernelRfl
namespace Go.Proofs.YtjhgboncipnkeaaDoor
/- THE CELL 'sum', in the pinned program and in every row, IS THE sha256 OF THE DUMP (.gsa) THAT YtjhgboncipnkeaaDoorProg.lean LOADS. Nothing in Lean hashes anything: it is a label: what it is worth is what the hold of that sum in a sandbox is worth. -/
noncomputable def Tryd.pinned : Pinned := { name := "ytjhgboncipnkeaadoor", sum := "e6bd3756ca48e583aab5cd8596a839da7568c8cd1329ee80abad9206f92a3db7", checked := Tryd.checked }
namespace Rows
def none {H : Type} : Left H := { results := [], args := [] }

/- WHAT THE LISTED PACKAGE-LEVEL VARIABLES READ AS WHEN THE CALL BEGINS. Each datum BY PROGRAM (the guide's laid-datum.mjs) off the statement by which the dump's own 'gosem.cut.vars' lays the variable. In a bare row this is a premise. The card (YtjhgboncipnkeaaDoorCards.lean) ties it to the program's text. -/
def laid_umlaut_utf_table {H : Type} : DataW H := .agg [.agg [.lit (.int .i64 0), .lit (.int .i64 127), .lit (.int .i64 0), .lit (.int .i64 0), .lit (.int .i64 0)], .agg [.lit (.int .i64 194), .lit (.int .i64 223), .lit (.int .i64 1), .lit (.int .i64 128), .lit (.int .i64 191)], .agg [.lit (.int .i64 224), .lit (.int .i64 224), .lit (.int .i64 2), .lit (.int .i64 160), .lit (.int .i64 191)], .agg [.lit (.int .i64 225), .lit (.int .i64 236), .lit (.int .i64 2), .lit (.int .i64 128), .lit (.int .i64 191)], .agg [.lit (.int .i64 237), .lit (.int .i64 237), .lit (.int .i64 2), .lit (.int .i64 128), .lit (.int .i64 159)], .agg [.lit (.int .i64 238), .lit (.int .i64 239), .lit (.int .i64 2), .lit (.int .i64 128), .lit (.int .i64 191)], .agg [.lit (.int .i64 240), .lit (.int .i64 240), .lit (.int .i64 3), .lit (.int .i64 144), .lit (.int .i64 191)], .agg [.lit (.int .i64 241), .lit (.int .i64 243), .lit (.int .i64 3), .lit (.int .i64 128), .lit (.int .i64 191)], .agg [.lit (.int .i64 244), .lit (.int .i64 244), .lit (.int .i64 3), .lit (.int .i64 128), .lit (.int .i64 143)]]
def laid_umlaut_utf_firstBits {H : Type} : DataW H := .agg [.lit (.int .i64 7), .lit (.int .i64 5), .lit (.int .i64 4), .lit (.int .i64 3)]

/-- 'umlautlaw10.UtfEncodes': WHATEVER THE INPUT: true; the input reads as it did. -/
def utfEncodesSpec : ChangeSpec := { name := "utfEncodes", fn := fun _ => fun
  | [d] => { results := [.lit (.bool true)], args := [d] }
  | _ => none }
def utfEncodesRow : OpenClaim := { program := "ytjhgboncipnkeaadoor", sum := "e6bd3756ca48e583aab5cd8596a839da7568c8cd1329ee80abad9206f92a3db7", func := "umlaut/umlautlaw10.UtfEncodes", spec := "utfEncodes", unfollowed := true, recurses := true, named := ["umlaut/utf.table", "umlaut/utf.firstBits"], apart := false, laid := [("umlaut/utf.table", laid_umlaut_utf_table), ("umlaut/utf.firstBits", laid_umlaut_utf_firstBits)] }
def UtfEncodesSaid : Prop := utfEncodesRow.holds Tryd.pinned (OpenSpec.ofChange utfEncodesSpec)

/-- ITS FALSE NEIGHBOUR: 'it returns false'. Refute it at one input. -/
def utfEncodesWrong : ChangeSpec := { name := "utfEncodes", fn := fun _ => fun
  | [d] => { results := [.lit (.bool false)], args := [d] }
  | _ => none }
def UtfEncodesWrongFalsely : Prop := utfEncodesRow.holds Tryd.pinned (OpenSpec.ofChange utfEncodesWrong)

/-- 'umlautlaw10.UtfScans': WHATEVER THE INPUT: true; the input reads as it did. -/
def utfScansSpec : ChangeSpec := { name := "utfScans", fn := fun _ => fun
  | [d1, d2] => { results := [.lit (.bool true)], args := [d1, d2] }
  | _ => none }
def utfScansRow : OpenClaim := { program := "ytjhgboncipnkeaadoor", sum := "e6bd3756ca48e583aab5cd8596a839da7568c8cd1329ee80abad9206f92a3db7", func := "umlaut/umlautlaw10.UtfScans", spec := "utfScans", unfollowed := true, recurses := true, named := ["umlaut/utf.table", "umlaut/utf.firstBits"], apart := false, laid := [("umlaut/utf.table", laid_umlaut_utf_table), ("umlaut/utf.firstBits", laid_umlaut_utf_firstBits)] }
def UtfScansSaid : Prop := utfScansRow.holds Tryd.pinned (OpenSpec.ofChange utfScansSpec)

/-- ITS FALSE NEIGHBOUR: 'it returns false'. Refute it at one input. -/
def utfScansWrong : ChangeSpec := { name := "utfScans", fn := fun _ => fun
  | [d1, d2] => { results := [.lit (.bool false)], args := [d1, d2] }
  | _ => none }
def UtfScansWrongFalsely : Prop := utfScansRow.holds Tryd.pinned (OpenSpec.ofChange utfScansWrong)

/-- 'umlautlaw10.UtfDecodes': WHATEVER THE INPUT: true; the input reads as it did. -/
def utfDecodesSpec : ChangeSpec := { name := "utfDecodes", fn := fun _ => fun
  | [d] => { results := [.lit (.bool true)], args := [d] }
  | _ => none }
def utfDecodesRow : OpenClaim := { program := "ytjhgboncipnkeaadoor", sum := "e6bd3756ca48e583aab5cd8596a839da7568c8cd1329ee80abad9206f92a3db7", func := "umlaut/umlautlaw10.UtfDecodes", spec := "utfDecodes", unfollowed := true, recurses := true, named := ["umlaut/utf.table", "umlaut/utf.firstBits"], apart := false, laid := [("umlaut/utf.table", laid_umlaut_utf_table), ("umlaut/utf.firstBits", laid_umlaut_utf_firstBits)] }
def UtfDecodesSaid : Prop := utfDecodesRow.holds Tryd.pinned (OpenSpec.ofChange utfDecodesSpec)

/-- ITS FALSE NEIGHBOUR: 'it returns false'. Refute it at one input. -/
def utfDecodesWrong : ChangeSpec := { name := "utfDecodes", fn := fun _ => fun
  | [d] => { results := [.lit (.bool false)], args := [d] }
  | _ => none }
def UtfDecodesWrongFalsely : Prop := utfDecodesRow.holds Tryd.pinned (OpenSpec.ofChange utfDecodesWrong)

/-- 'umlautlaw10.UtfRows': WHATEVER THE INPUT: true; the input reads as it did. -/
def utfRowsSpec : ChangeSpec := { name := "utfRows", fn := fun _ => fun
  | [d] => { results := [.lit (.bool true)], args := [d] }
  | _ => none }
def utfRowsRow : OpenClaim := { program := "ytjhgboncipnkeaadoor", sum := "e6bd3756ca48e583aab5cd8596a839da7568c8cd1329ee80abad9206f92a3db7", func := "umlaut/umlautlaw10.UtfRows", spec := "utfRows", unfollowed := true, recurses := true, named := ["umlaut/utf.table", "umlaut/utf.firstBits"], apart := false, laid := [("umlaut/utf.table", laid_umlaut_utf_table), ("umlaut/utf.firstBits", laid_umlaut_utf_firstBits)] }
def UtfRowsSaid : Prop := utfRowsRow.holds Tryd.pinned (OpenSpec.ofChange utfRowsSpec)

/-- ITS FALSE NEIGHBOUR: 'it returns false'. Refute it at one input. -/
def utfRowsWrong : ChangeSpec := { name := "utfRows", fn := fun _ => fun
  | [d] => { results := [.lit (.bool false)], args := [d] }
  | _ => none }
def UtfRowsWrongFalsely : Prop := utfRowsRow.holds Tryd.pinned (OpenSpec.ofChange utfRowsWrong)

/-- 'umlautlaw10.UtfBack': WHATEVER THE INPUT: true; the input reads as it did. -/
def utfBackSpec : ChangeSpec := { name := "utfBack", fn := fun _ => fun
  | [d1, d2] => { results := [.lit (.bool true)], args := [d1, d2] }
  | _ => none }
def utfBackRow : OpenClaim := { program := "ytjhgboncipnkeaadoor", sum := "e6bd3756ca48e583aab5cd8596a839da7568c8cd1329ee80abad9206f92a3db7", func := "umlaut/umlautlaw10.UtfBack", spec := "utfBack", unfollowed := true, recurses := true, named := ["umlaut/utf.table", "umlaut/utf.firstBits"], apart := false, laid := [("umlaut/utf.table", laid_umlaut_utf_table), ("umlaut/utf.firstBits", laid_umlaut_utf_firstBits)] }
def UtfBackSaid : Prop := utfBackRow.holds Tryd.pinned (OpenSpec.ofChange utfBackSpec)

/-- ITS FALSE NEIGHBOUR: 'it returns false'. Refute it at one input. -/
def utfBackWrong : ChangeSpec := { name := "utfBack", fn := fun _ => fun
  | [d1, d2] => { results := [.lit (.bool false)], args := [d1, d2] }
  | _ => none }
def UtfBackWrongFalsely : Prop := utfBackRow.holds Tryd.pinned (OpenSpec.ofChange utfBackWrong)

/-- 'umlautlaw10.UtfJoins': WHATEVER THE INPUT: true; the input reads as it did. -/
def utfJoinsSpec : ChangeSpec := { name := "utfJoins", fn := fun _ => fun
  | [d1, d2, d3] => { results := [.lit (.bool true)], args := [d1, d2, d3] }
  | _ => none }
def utfJoinsRow : OpenClaim := { program := "ytjhgboncipnkeaadoor", sum := "e6bd3756ca48e583aab5cd8596a839da7568c8cd1329ee80abad9206f92a3db7", func := "umlaut/umlautlaw10.UtfJoins", spec := "utfJoins", unfollowed := true, recurses := true, named := ["umlaut/utf.table", "umlaut/utf.firstBits"], apart := false, laid := [("umlaut/utf.table", laid_umlaut_utf_table), ("umlaut/utf.firstBits", laid_umlaut_utf_firstBits)] }
def UtfJoinsSaid : Prop := utfJoinsRow.holds Tryd.pinned (OpenSpec.ofChange utfJoinsSpec)

/-- ITS FALSE NEIGHBOUR: 'it returns false'. Refute it at one input. -/
def utfJoinsWrong : ChangeSpec := { name := "utfJoins", fn := fun _ => fun
  | [d1, d2, d3] => { results := [.lit (.bool false)], args := [d1, d2, d3] }
  | _ => none }
def UtfJoinsWrongFalsely : Prop := utfJoinsRow.holds Tryd.pinned (OpenSpec.ofChange utfJoinsWrong)

/-- 'umlautlaw10.UtfParts': WHATEVER THE INPUT: true; the input reads as it did. -/
def utfPartsSpec : ChangeSpec := { name := "utfParts", fn := fun _ => fun
  | [d1, d2] => { results := [.lit (.bool true)], args := [d1, d2] }
  | _ => none }
def utfPartsRow : OpenClaim := { program := "ytjhgboncipnkeaadoor", sum := "e6bd3756ca48e583aab5cd8596a839da7568c8cd1329ee80abad9206f92a3db7", func := "umlaut/umlautlaw10.UtfParts", spec := "utfParts", unfollowed := true, recurses := true, named := ["umlaut/utf.table", "umlaut/utf.firstBits"], apart := false, laid := [("umlaut/utf.table", laid_umlaut_utf_table), ("umlaut/utf.firstBits", laid_umlaut_utf_firstBits)] }
def UtfPartsSaid : Prop := utfPartsRow.holds Tryd.pinned (OpenSpec.ofChange utfPartsSpec)

/-- ITS FALSE NEIGHBOUR: 'it returns false'. Refute it at one input. -/
def utfPartsWrong : ChangeSpec := { name := "utfParts", fn := fun _ => fun
  | [d1, d2] => { results := [.lit (.bool false)], args := [d1, d2] }
  | _ => none }
def UtfPartsWrongFalsely : Prop := utfPartsRow.holds Tryd.pinned (OpenSpec.ofChange utfPartsWrong)

/- THE SECOND FORM. 'bulk': how many values and letters a reading holds, each counted each time it is reached (what is shared counts as often as it is met; a slice's spare places count too). A statement '..UptoSaid' is the law's where the arguments, and the package variables that the reading takes, are together of bulk at most 1048576: NARROWER than '..Said'. Prove '..Said' where nothing that the law and all that it calls make is longer than what came in: it says more and counts as full. Else prove '..UptoSaid'. A law counts once. -/
mutual
def uptoBulk {H : Type} : DataW H → Nat
  | .lit (.string bytes) => bytes.length + 1
  | .lit _ => 1
  | .nil => 1
  | .ptr d => uptoBulk d + 1
  | .slice elems spare => uptoBulkAll elems + uptoBulkAll spare + 1
  | .agg parts => uptoBulkAll parts + 1
  | .iface _ d => uptoBulk d + 1
  | .map entries => uptoBulkEntries entries + 1
  | .held _ => 1
def uptoBulkAll {H : Type} : List (DataW H) → Nat
  | [] => 0
  | d :: r => uptoBulk d + uptoBulkAll r
def uptoBulkEntries {H : Type} : List (Lit × DataW H) → Nat
  | [] => 0
  | x :: r => uptoBulkEntry x + uptoBulkEntries r
def uptoBulkEntry {H : Type} : Lit × DataW H → Nat
  | (.string bytes, d) => bytes.length + uptoBulk d + 1
  | (_, d) => uptoBulk d + 1
 end
def uptoSmall : (H : Type) → List (DataW H) → Bool := fun _ ds => decide (uptoBulkAll ds ≤ 1048576)
def OpenSpec.upto (s : _root_.Go.ChangeSpec) : _root_.Go.OpenSpec := { _root_.Go.OpenSpec.ofChange s with cond := some uptoSmall }

/-- 'umlautlaw10.UtfEncodes', WHERE WHAT IT READS IS OF BULK AT MOST 1048576: true; the input reads as it did. -/
def utfEncodesUptoRow : OpenClaim := { program := "ytjhgboncipnkeaadoor", sum := "e6bd3756ca48e583aab5cd8596a839da7568c8cd1329ee80abad9206f92a3db7", func := "umlaut/umlautlaw10.UtfEncodes", spec := "utfEncodes", unfollowed := true, recurses := true, named := ["umlaut/utf.table", "umlaut/utf.firstBits"], apart := false, laid := [("umlaut/utf.table", laid_umlaut_utf_table), ("umlaut/utf.firstBits", laid_umlaut_utf_firstBits)], narrowed := true }
def UtfEncodesUptoSaid : Prop := utfEncodesUptoRow.holds Tryd.pinned (OpenSpec.upto utfEncodesSpec)

/-- 'umlautlaw10.UtfScans', WHERE WHAT IT READS IS OF BULK AT MOST 1048576: true; the input reads as it did. -/
def utfScansUptoRow : OpenClaim := { program := "ytjhgboncipnkeaadoor", sum := "e6bd3756ca48e583aab5cd8596a839da7568c8cd1329ee80abad9206f92a3db7", func := "umlaut/umlautlaw10.UtfScans", spec := "utfScans", unfollowed := true, recurses := true, named := ["umlaut/utf.table", "umlaut/utf.firstBits"], apart := false, laid := [("umlaut/utf.table", laid_umlaut_utf_table), ("umlaut/utf.firstBits", laid_umlaut_utf_firstBits)], narrowed := true }
def UtfScansUptoSaid : Prop := utfScansUptoRow.holds Tryd.pinned (OpenSpec.upto utfScansSpec)

/-- 'umlautlaw10.UtfDecodes', WHERE WHAT IT READS IS OF BULK AT MOST 1048576: true; the input reads as it did. -/
def utfDecodesUptoRow : OpenClaim := { program := "ytjhgboncipnkeaadoor", sum := "e6bd3756ca48e583aab5cd8596a839da7568c8cd1329ee80abad9206f92a3db7", func := "umlaut/umlautlaw10.UtfDecodes", spec := "utfDecodes", unfollowed := true, recurses := true, named := ["umlaut/utf.table", "umlaut/utf.firstBits"], apart := false, laid := [("umlaut/utf.table", laid_umlaut_utf_table), ("umlaut/utf.firstBits", laid_umlaut_utf_firstBits)], narrowed := true }
def UtfDecodesUptoSaid : Prop := utfDecodesUptoRow.holds Tryd.pinned (OpenSpec.upto utfDecodesSpec)

/-- 'umlautlaw10.UtfRows', WHERE WHAT IT READS IS OF BULK AT MOST 1048576: true; the input reads as it did. -/
def utfRowsUptoRow : OpenClaim := { program := "ytjhgboncipnkeaadoor", sum := "e6bd3756ca48e583aab5cd8596a839da7568c8cd1329ee80abad9206f92a3db7", func := "umlaut/umlautlaw10.UtfRows", spec := "utfRows", unfollowed := true, recurses := true, named := ["umlaut/utf.table", "umlaut/utf.firstBits"], apart := false, laid := [("umlaut/utf.table", laid_umlaut_utf_table), ("umlaut/utf.firstBits", laid_umlaut_utf_firstBits)], narrowed := true }
def UtfRowsUptoSaid : Prop := utfRowsUptoRow.holds Tryd.pinned (OpenSpec.upto utfRowsSpec)

/-- 'umlautlaw10.UtfBack', WHERE WHAT IT READS IS OF BULK AT MOST 1048576: true; the input reads as it did. -/
def utfBackUptoRow : OpenClaim := { program := "ytjhgboncipnkeaadoor", sum := "e6bd3756ca48e583aab5cd8596a839da7568c8cd1329ee80abad9206f92a3db7", func := "umlaut/umlautlaw10.UtfBack", spec := "utfBack", unfollowed := true, recurses := true, named := ["umlaut/utf.table", "umlaut/utf.firstBits"], apart := false, laid := [("umlaut/utf.table", laid_umlaut_utf_table), ("umlaut/utf.firstBits", laid_umlaut_utf_firstBits)], narrowed := true }
def UtfBackUptoSaid : Prop := utfBackUptoRow.holds Tryd.pinned (OpenSpec.upto utfBackSpec)

/-- 'umlautlaw10.UtfJoins', WHERE WHAT IT READS IS OF BULK AT MOST 1048576: true; the input reads as it did. -/
def utfJoinsUptoRow : OpenClaim := { program := "ytjhgboncipnkeaadoor", sum := "e6bd3756ca48e583aab5cd8596a839da7568c8cd1329ee80abad9206f92a3db7", func := "umlaut/umlautlaw10.UtfJoins", spec := "utfJoins", unfollowed := true, recurses := true, named := ["umlaut/utf.table", "umlaut/utf.firstBits"], apart := false, laid := [("umlaut/utf.table", laid_umlaut_utf_table), ("umlaut/utf.firstBits", laid_umlaut_utf_firstBits)], narrowed := true }
def UtfJoinsUptoSaid : Prop := utfJoinsUptoRow.holds Tryd.pinned (OpenSpec.upto utfJoinsSpec)

/-- 'umlautlaw10.UtfParts', WHERE WHAT IT READS IS OF BULK AT MOST 1048576: true; the input reads as it did. -/
def utfPartsUptoRow : OpenClaim := { program := "ytjhgboncipnkeaadoor", sum := "e6bd3756ca48e583aab5cd8596a839da7568c8cd1329ee80abad9206f92a3db7", func := "umlaut/umlautlaw10.UtfParts", spec := "utfParts", unfollowed := true, recurses := true, named := ["umlaut/utf.table", "umlaut/utf.firstBits"], apart := false, laid := [("umlaut/utf.table", laid_umlaut_utf_table), ("umlaut/utf.firstBits", laid_umlaut_utf_firstBits)], narrowed := true }
def UtfPartsUptoSaid : Prop := utfPartsUptoRow.holds Tryd.pinned (OpenSpec.upto utfPartsSpec)

end Rows
end Go.Proofs.YtjhgboncipnkeaaDoor
