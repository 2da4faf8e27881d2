/-
  DERIVED. GIVEN WITH THE SEED: THE CARDS: each row of YtbhocpjogkobgaaGreatDoorRows.lean that lists a variable, with what it lists TIED to the program's text (the seventh form; the later family's looks); each row that meets fmt, with fmt's text TOLD by the authors' own Lean function (tested against real Go, not proved from fmt's source: count such statements apart). THE CARD IS WHAT COUNTS. Prove the row's statement (the work); the ties are given (YtbhocpjogkobgaaGreatDoorTie.lean); close each card by the builder's one call (the guide's Derived/Test/ToyasCard.lean, 'card_holds'). Laid BY PROGRAM, IN A SANDBOX (cutbox-door.mjs). By AI agents, Wed Nov 11 2026. No macro, syntax, notation, axiom, sorry.
-/
import Derived.Test.YtbhocpjogkobgaaGreatDoorRows
import GoSem.ClaimSeven
namespace Go.Proofs.YtbhocpjogkobgaaGreatDoor
namespace Rows

/-- THE TIED CARD OF 'umlautlaw06.DescWheres'. -/
def descWheresCard : Claim7 := { stood := { row := descWheresRow, standIns := [], harness := (true, "b0caf4ba2c6399f0d26b7858ea0ff84001aa798060c784a370f0c5dc4e05b6d0"), looks := false }, kinds := [], alts := [], laidByText := true, laidKinds := [.data, .data], laidTests := true, laidLooks := .later }
def DescWheresCardSaid : Prop := Claim7.holds Tryz.pinned (.plain (OpenSpec.ofChange descWheresSpec)) descWheresCard

/-- THE TIED CARD OF 'umlautlaw06.DescJoins'. -/
def descJoinsCard : Claim7 := { stood := { row := descJoinsRow, standIns := [], harness := (true, "b0caf4ba2c6399f0d26b7858ea0ff84001aa798060c784a370f0c5dc4e05b6d0"), looks := false }, kinds := [], alts := [], laidByText := true, laidKinds := [.data, .data], laidTests := true, laidLooks := .later }
def DescJoinsCardSaid : Prop := Claim7.holds Tryz.pinned (.plain (OpenSpec.ofChange descJoinsSpec)) descJoinsCard

/-- THE TIED CARD OF 'umlautlaw06.DescSpoilt'. -/
def descSpoiltCard : Claim7 := { stood := { row := descSpoiltRow, standIns := [], harness := (true, "b0caf4ba2c6399f0d26b7858ea0ff84001aa798060c784a370f0c5dc4e05b6d0"), looks := false }, kinds := [], alts := [], laidByText := true, laidKinds := [.data, .data], laidTests := true, laidLooks := .later }
def DescSpoiltCardSaid : Prop := Claim7.holds Tryz.pinned (.plain (OpenSpec.ofChange descSpoiltSpec)) descSpoiltCard

/-- THE TIED CARD OF 'umlautlaw09.TrimStates'. -/
def trimStatesCard : Claim7 := { stood := { row := trimStatesRow, standIns := [], harness := (true, "b0caf4ba2c6399f0d26b7858ea0ff84001aa798060c784a370f0c5dc4e05b6d0"), looks := false }, kinds := [], alts := [], laidByText := true, laidKinds := [.data, .data], laidTests := true, laidLooks := .later }
def TrimStatesCardSaid : Prop := Claim7.holds Tryz.pinned (.plain (OpenSpec.ofChange trimStatesSpec)) trimStatesCard

/-- THE TIED CARD OF 'umlautlaw09.TrimTakes'. -/
def trimTakesCard : Claim7 := { stood := { row := trimTakesRow, standIns := [], harness := (true, "b0caf4ba2c6399f0d26b7858ea0ff84001aa798060c784a370f0c5dc4e05b6d0"), looks := false }, kinds := [], alts := [], laidByText := true, laidKinds := [.data, .data], laidTests := true, laidLooks := .later }
def TrimTakesCardSaid : Prop := Claim7.holds Tryz.pinned (.plain (OpenSpec.ofChange trimTakesSpec)) trimTakesCard

/-- THE TIED CARD OF 'umlautlaw09.TrimTwice'. -/
def trimTwiceCard : Claim7 := { stood := { row := trimTwiceRow, standIns := [], harness := (true, "b0caf4ba2c6399f0d26b7858ea0ff84001aa798060c784a370f0c5dc4e05b6d0"), looks := false }, kinds := [], alts := [], laidByText := true, laidKinds := [.data, .data], laidTests := true, laidLooks := .later }
def TrimTwiceCardSaid : Prop := Claim7.holds Tryz.pinned (.plain (OpenSpec.ofChange trimTwiceSpec)) trimTwiceCard

/-- THE TIED CARD OF 'umlautlaw09.TrimChain'. -/
def trimChainCard : Claim7 := { stood := { row := trimChainRow, standIns := [], harness := (true, "b0caf4ba2c6399f0d26b7858ea0ff84001aa798060c784a370f0c5dc4e05b6d0"), looks := false }, kinds := [], alts := [], laidByText := true, laidKinds := [.data, .data], laidTests := true, laidLooks := .later }
def TrimChainCardSaid : Prop := Claim7.holds Tryz.pinned (.plain (OpenSpec.ofChange trimChainSpec)) trimChainCard

/-- THE SECOND FORM's CARD OF 'umlautlaw06.DescWheres'. -/
def descWheresUptoCard : Claim7 := { stood := { row := descWheresUptoRow, standIns := [], harness := (true, "b0caf4ba2c6399f0d26b7858ea0ff84001aa798060c784a370f0c5dc4e05b6d0"), looks := false }, kinds := [], alts := [], laidByText := true, laidKinds := [.data, .data], laidTests := true, laidLooks := .later }
def DescWheresUptoCardSaid : Prop := Claim7.holds Tryz.pinned (.plain (OpenSpec.upto descWheresSpec)) descWheresUptoCard

/-- THE SECOND FORM's CARD OF 'umlautlaw06.DescJoins'. -/
def descJoinsUptoCard : Claim7 := { stood := { row := descJoinsUptoRow, standIns := [], harness := (true, "b0caf4ba2c6399f0d26b7858ea0ff84001aa798060c784a370f0c5dc4e05b6d0"), looks := false }, kinds := [], alts := [], laidByText := true, laidKinds := [.data, .data], laidTests := true, laidLooks := .later }
def DescJoinsUptoCardSaid : Prop := Claim7.holds Tryz.pinned (.plain (OpenSpec.upto descJoinsSpec)) descJoinsUptoCard

/-- THE SECOND FORM's CARD OF 'umlautlaw06.DescSpoilt'. -/
def descSpoiltUptoCard : Claim7 := { stood := { row := descSpoiltUptoRow, standIns := [], harness := (true, "b0caf4ba2c6399f0d26b7858ea0ff84001aa798060c784a370f0c5dc4e05b6d0"), looks := false }, kinds := [], alts := [], laidByText := true, laidKinds := [.data, .data], laidTests := true, laidLooks := .later }
def DescSpoiltUptoCardSaid : Prop := Claim7.holds Tryz.pinned (.plain (OpenSpec.upto descSpoiltSpec)) descSpoiltUptoCard

/-- THE SECOND FORM's CARD OF 'umlautlaw09.TrimStates'. -/
def trimStatesUptoCard : Claim7 := { stood := { row := trimStatesUptoRow, standIns := [], harness := (true, "b0caf4ba2c6399f0d26b7858ea0ff84001aa798060c784a370f0c5dc4e05b6d0"), looks := false }, kinds := [], alts := [], laidByText := true, laidKinds := [.data, .data], laidTests := true, laidLooks := .later }
def TrimStatesUptoCardSaid : Prop := Claim7.holds Tryz.pinned (.plain (OpenSpec.upto trimStatesSpec)) trimStatesUptoCard

/-- THE SECOND FORM's CARD OF 'umlautlaw09.TrimTakes'. -/
def trimTakesUptoCard : Claim7 := { stood := { row := trimTakesUptoRow, standIns := [], harness := (true, "b0caf4ba2c6399f0d26b7858ea0ff84001aa798060c784a370f0c5dc4e05b6d0"), looks := false }, kinds := [], alts := [], laidByText := true, laidKinds := [.data, .data], laidTests := true, laidLooks := .later }
def TrimTakesUptoCardSaid : Prop := Claim7.holds Tryz.pinned (.plain (OpenSpec.upto trimTakesSpec)) trimTakesUptoCard

/-- THE SECOND FORM's CARD OF 'umlautlaw09.TrimTwice'. -/
def trimTwiceUptoCard : Claim7 := { stood := { row := trimTwiceUptoRow, standIns := [], harness := (true, "b0caf4ba2c6399f0d26b7858ea0ff84001aa798060c784a370f0c5dc4e05b6d0"), looks := false }, kinds := [], alts := [], laidByText := true, laidKinds := [.data, .data], laidTests := true, laidLooks := .later }
def TrimTwiceUptoCardSaid : Prop := Claim7.holds Tryz.pinned (.plain (OpenSpec.upto trimTwiceSpec)) trimTwiceUptoCard

/-- THE SECOND FORM's CARD OF 'umlautlaw09.TrimChain'. -/
def trimChainUptoCard : Claim7 := { stood := { row := trimChainUptoRow, standIns := [], harness := (true, "b0caf4ba2c6399f0d26b7858ea0ff84001aa798060c784a370f0c5dc4e05b6d0"), looks := false }, kinds := [], alts := [], laidByText := true, laidKinds := [.data, .data], laidTests := true, laidLooks := .later }
def TrimChainUptoCardSaid : Prop := Claim7.holds Tryz.pinned (.plain (OpenSpec.upto trimChainSpec)) trimChainUptoCard
end Rows
end Go.Proofs.YtbhocpjogkobgaaGreatDoor
