/-
  DERIVED. GIVEN WITH THE SEED: THE CARDS: each row of YtiddgfcoankpjaaGreatDoorRows.lean that lists a variable, with what it lists TIED to the program's text (the seventh form; the later family's looks); each row that meets fmt, with fmt's text TOLD by the authors' own Lean function (tested against real Go, not proved from fmt's source: count such statements apart). THE CARD IS WHAT COUNTS. Prove the row's statement (the work); the ties are given (YtiddgfcoankpjaaGreatDoorTie.lean); close each card by the builder's one call (the guide's Derived/Test/ToyasCard.lean, 'card_holds'). Laid BY PROGRAM, IN A SANDBOX (cutbox-door.mjs). By AI agents, Wed Nov 11 2026. No macro, syntax, notation, axiom, sorry.
-/
import Derived.Test.YtiddgfcoankpjaaGreatDoorRows
import GoSem.ClaimSeven
namespace Go.Proofs.YtiddgfcoankpjaaGreatDoor
namespace Rows

/-- THE TIED CARD OF 'umlautlaw04.TermFits'. -/
def termFitsCard : Claim7 := { stood := { row := termFitsRow, standIns := [], harness := (true, "9a0df0c10f9536526a1c8d4098c20fb907ee32f2fc5d3196669911eda7142553"), looks := false }, kinds := [], alts := [], laidByText := true, laidKinds := [.data, .data], laidTests := true, laidLooks := .later }
def TermFitsCardSaid : Prop := Claim7.holds Tryz.pinned (.plain (OpenSpec.ofChange termFitsSpec)) termFitsCard

/-- THE TIED CARD OF 'umlautlaw06.DescWheres'. -/
def descWheresCard : Claim7 := { stood := { row := descWheresRow, standIns := [], harness := (true, "9a0df0c10f9536526a1c8d4098c20fb907ee32f2fc5d3196669911eda7142553"), looks := false }, kinds := [], alts := [], laidByText := true, laidKinds := [.data, .data], laidTests := true, laidLooks := .later }
def DescWheresCardSaid : Prop := Claim7.holds Tryz.pinned (.plain (OpenSpec.ofChange descWheresSpec)) descWheresCard

/-- THE TIED CARD OF 'umlautlaw06.DescSizes'. -/
def descSizesCard : Claim7 := { stood := { row := descSizesRow, standIns := [], harness := (true, "9a0df0c10f9536526a1c8d4098c20fb907ee32f2fc5d3196669911eda7142553"), looks := false }, kinds := [], alts := [], laidByText := true, laidKinds := [.data, .data], laidTests := true, laidLooks := .later }
def DescSizesCardSaid : Prop := Claim7.holds Tryz.pinned (.plain (OpenSpec.ofChange descSizesSpec)) descSizesCard

/-- THE TIED CARD OF 'umlautlaw06.DescJoins'. -/
def descJoinsCard : Claim7 := { stood := { row := descJoinsRow, standIns := [], harness := (true, "9a0df0c10f9536526a1c8d4098c20fb907ee32f2fc5d3196669911eda7142553"), looks := false }, kinds := [], alts := [], laidByText := true, laidKinds := [.data, .data], laidTests := true, laidLooks := .later }
def DescJoinsCardSaid : Prop := Claim7.holds Tryz.pinned (.plain (OpenSpec.ofChange descJoinsSpec)) descJoinsCard

/-- THE TIED CARD OF 'umlautlaw06.DescMakes'. -/
def descMakesCard : Claim7 := { stood := { row := descMakesRow, standIns := [], harness := (true, "9a0df0c10f9536526a1c8d4098c20fb907ee32f2fc5d3196669911eda7142553"), looks := false }, kinds := [], alts := [], laidByText := true, laidKinds := [.data, .data], laidTests := true, laidLooks := .later }
def DescMakesCardSaid : Prop := Claim7.holds Tryz.pinned (.plain (OpenSpec.ofChange descMakesSpec)) descMakesCard

/-- THE TIED CARD OF 'umlautlaw06.DescSpoilt'. -/
def descSpoiltCard : Claim7 := { stood := { row := descSpoiltRow, standIns := [], harness := (true, "9a0df0c10f9536526a1c8d4098c20fb907ee32f2fc5d3196669911eda7142553"), looks := false }, kinds := [], alts := [], laidByText := true, laidKinds := [.data, .data], laidTests := true, laidLooks := .later }
def DescSpoiltCardSaid : Prop := Claim7.holds Tryz.pinned (.plain (OpenSpec.ofChange descSpoiltSpec)) descSpoiltCard

/-- THE TIED CARD OF 'umlautlaw06.DescCycles'. -/
def descCyclesCard : Claim7 := { stood := { row := descCyclesRow, standIns := [], harness := (true, "9a0df0c10f9536526a1c8d4098c20fb907ee32f2fc5d3196669911eda7142553"), looks := false }, kinds := [], alts := [], laidByText := true, laidKinds := [.data, .data], laidTests := true, laidLooks := .later }
def DescCyclesCardSaid : Prop := Claim7.holds Tryz.pinned (.plain (OpenSpec.ofChange descCyclesSpec)) descCyclesCard

/-- THE SECOND FORM's CARD OF 'umlautlaw04.TermFits'. -/
def termFitsUptoCard : Claim7 := { stood := { row := termFitsUptoRow, standIns := [], harness := (true, "9a0df0c10f9536526a1c8d4098c20fb907ee32f2fc5d3196669911eda7142553"), looks := false }, kinds := [], alts := [], laidByText := true, laidKinds := [.data, .data], laidTests := true, laidLooks := .later }
def TermFitsUptoCardSaid : Prop := Claim7.holds Tryz.pinned (.plain (OpenSpec.upto termFitsSpec)) termFitsUptoCard

/-- THE SECOND FORM's CARD OF 'umlautlaw06.DescWheres'. -/
def descWheresUptoCard : Claim7 := { stood := { row := descWheresUptoRow, standIns := [], harness := (true, "9a0df0c10f9536526a1c8d4098c20fb907ee32f2fc5d3196669911eda7142553"), looks := false }, kinds := [], alts := [], laidByText := true, laidKinds := [.data, .data], laidTests := true, laidLooks := .later }
def DescWheresUptoCardSaid : Prop := Claim7.holds Tryz.pinned (.plain (OpenSpec.upto descWheresSpec)) descWheresUptoCard

/-- THE SECOND FORM's CARD OF 'umlautlaw06.DescSizes'. -/
def descSizesUptoCard : Claim7 := { stood := { row := descSizesUptoRow, standIns := [], harness := (true, "9a0df0c10f9536526a1c8d4098c20fb907ee32f2fc5d3196669911eda7142553"), looks := false }, kinds := [], alts := [], laidByText := true, laidKinds := [.data, .data], laidTests := true, laidLooks := .later }
def DescSizesUptoCardSaid : Prop := Claim7.holds Tryz.pinned (.plain (OpenSpec.upto descSizesSpec)) descSizesUptoCard

/-- THE SECOND FORM's CARD OF 'umlautlaw06.DescJoins'. -/
def descJoinsUptoCard : Claim7 := { stood := { row := descJoinsUptoRow, standIns := [], harness := (true, "9a0df0c10f9536526a1c8d4098c20fb907ee32f2fc5d3196669911eda7142553"), looks := false }, kinds := [], alts := [], laidByText := true, laidKinds := [.data, .data], laidTests := true, laidLooks := .later }
def DescJoinsUptoCardSaid : Prop := Claim7.holds Tryz.pinned (.plain (OpenSpec.upto descJoinsSpec)) descJoinsUptoCard

/-- THE SECOND FORM's CARD OF 'umlautlaw06.DescMakes'. -/
def descMakesUptoCard : Claim7 := { stood := { row := descMakesUptoRow, standIns := [], harness := (true, "9a0df0c10f9536526a1c8d4098c20fb907ee32f2fc5d3196669911eda7142553"), looks := false }, kinds := [], alts := [], laidByText := true, laidKinds := [.data, .data], laidTests := true, laidLooks := .later }
def DescMakesUptoCardSaid : Prop := Claim7.holds Tryz.pinned (.plain (OpenSpec.upto descMakesSpec)) descMakesUptoCard

/-- THE SECOND FORM's CARD OF 'umlautlaw06.DescSpoilt'. -/
def descSpoiltUptoCard : Claim7 := { stood := { row := descSpoiltUptoRow, standIns := [], harness := (true, "9a0df0c10f9536526a1c8d4098c20fb907ee32f2fc5d3196669911eda7142553"), looks := false }, kinds := [], alts := [], laidByText := true, laidKinds := [.data, .data], laidTests := true, laidLooks := .later }
def DescSpoiltUptoCardSaid : Prop := Claim7.holds Tryz.pinned (.plain (OpenSpec.upto descSpoiltSpec)) descSpoiltUptoCard

/-- THE SECOND FORM's CARD OF 'umlautlaw06.DescCycles'. -/
def descCyclesUptoCard : Claim7 := { stood := { row := descCyclesUptoRow, standIns := [], harness := (true, "9a0df0c10f9536526a1c8d4098c20fb907ee32f2fc5d3196669911eda7142553"), looks := false }, kinds := [], alts := [], laidByText := true, laidKinds := [.data, .data], laidTests := true, laidLooks := .later }
def DescCyclesUptoCardSaid : Prop := Claim7.holds Tryz.pinned (.plain (OpenSpec.upto descCyclesSpec)) descCyclesUptoCard
end Rows
end Go.Proofs.YtiddgfcoankpjaaGreatDoor
