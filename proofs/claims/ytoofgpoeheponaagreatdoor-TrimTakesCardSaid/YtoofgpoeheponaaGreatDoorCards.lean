/-
  DERIVED. GIVEN WITH THE SEED: THE CARDS: each row of YtoofgpoeheponaaGreatDoorRows.lean that lists a variable, with what it lists TIED to the program's text (the seventh form; the later family's looks); each row that meets fmt, with fmt's text TOLD by the authors' own Lean function (tested against real Go, not proved from fmt's source: count such statements apart). THE CARD IS WHAT COUNTS. Prove the row's statement (the work); the ties are given (YtoofgpoeheponaaGreatDoorTie.lean); close each card by the builder's one call (the guide's Derived/Test/ToyasCard.lean, 'card_holds'). Laid BY PROGRAM, IN A SANDBOX (cutbox-door.mjs). By AI agents, Wed Nov 11 2026. No macro, syntax, notation, axiom, sorry.
-/
import Derived.Test.YtoofgpoeheponaaGreatDoorRows
import GoSem.ClaimSeven
namespace Go.Proofs.YtoofgpoeheponaaGreatDoor
namespace Rows

/-- THE TIED CARD OF 'umlautlaw06.DescJoins'. -/
def descJoinsCard : Claim7 := { stood := { row := descJoinsRow, standIns := [], harness := (true, "843f0e2202f82908751f164da79f1f4d926356568f1922985e841e9fb27d6c48"), looks := false }, kinds := [], alts := [], laidByText := true, laidKinds := [.data, .data], laidTests := true, laidLooks := .later }
def DescJoinsCardSaid : Prop := Claim7.holds Tryz.pinned (.plain (OpenSpec.ofChange descJoinsSpec)) descJoinsCard

/-- THE TIED CARD OF 'umlautlaw09.TrimStates'. -/
def trimStatesCard : Claim7 := { stood := { row := trimStatesRow, standIns := [], harness := (true, "843f0e2202f82908751f164da79f1f4d926356568f1922985e841e9fb27d6c48"), looks := false }, kinds := [], alts := [], laidByText := true, laidKinds := [.data, .data], laidTests := true, laidLooks := .later }
def TrimStatesCardSaid : Prop := Claim7.holds Tryz.pinned (.plain (OpenSpec.ofChange trimStatesSpec)) trimStatesCard

/-- THE TIED CARD OF 'umlautlaw09.TrimTakes'. -/
def trimTakesCard : Claim7 := { stood := { row := trimTakesRow, standIns := [], harness := (true, "843f0e2202f82908751f164da79f1f4d926356568f1922985e841e9fb27d6c48"), looks := false }, kinds := [], alts := [], laidByText := true, laidKinds := [.data, .data], laidTests := true, laidLooks := .later }
def TrimTakesCardSaid : Prop := Claim7.holds Tryz.pinned (.plain (OpenSpec.ofChange trimTakesSpec)) trimTakesCard

/-- THE TIED CARD OF 'umlautlaw09.TrimTwice'. -/
def trimTwiceCard : Claim7 := { stood := { row := trimTwiceRow, standIns := [], harness := (true, "843f0e2202f82908751f164da79f1f4d926356568f1922985e841e9fb27d6c48"), looks := false }, kinds := [], alts := [], laidByText := true, laidKinds := [.data, .data], laidTests := true, laidLooks := .later }
def TrimTwiceCardSaid : Prop := Claim7.holds Tryz.pinned (.plain (OpenSpec.ofChange trimTwiceSpec)) trimTwiceCard

/-- THE TIED CARD OF 'umlautlaw09.TrimChain'. -/
def trimChainCard : Claim7 := { stood := { row := trimChainRow, standIns := [], harness := (true, "843f0e2202f82908751f164da79f1f4d926356568f1922985e841e9fb27d6c48"), looks := false }, kinds := [], alts := [], laidByText := true, laidKinds := [.data, .data], laidTests := true, laidLooks := .later }
def TrimChainCardSaid : Prop := Claim7.holds Tryz.pinned (.plain (OpenSpec.ofChange trimChainSpec)) trimChainCard

/-- THE SECOND FORM's CARD OF 'umlautlaw06.DescJoins'. -/
def descJoinsUptoCard : Claim7 := { stood := { row := descJoinsUptoRow, standIns := [], harness := (true, "843f0e2202f82908751f164da79f1f4d926356568f1922985e841e9fb27d6c48"), looks := false }, kinds := [], alts := [], laidByText := true, laidKinds := [.data, .data], laidTests := true, laidLooks := .later }
def DescJoinsUptoCardSaid : Prop := Claim7.holds Tryz.pinned (.plain (OpenSpec.upto descJoinsSpec)) descJoinsUptoCard

/-- THE SECOND FORM's CARD OF 'umlautlaw09.TrimStates'. -/
def trimStatesUptoCard : Claim7 := { stood := { row := trimStatesUptoRow, standIns := [], harness := (true, "843f0e2202f82908751f164da79f1f4d926356568f1922985e841e9fb27d6c48"), looks := false }, kinds := [], alts := [], laidByText := true, laidKinds := [.data, .data], laidTests := true, laidLooks := .later }
def TrimStatesUptoCardSaid : Prop := Claim7.holds Tryz.pinned (.plain (OpenSpec.upto trimStatesSpec)) trimStatesUptoCard

/-- THE SECOND FORM's CARD OF 'umlautlaw09.TrimTakes'. -/
def trimTakesUptoCard : Claim7 := { stood := { row := trimTakesUptoRow, standIns := [], harness := (true, "843f0e2202f82908751f164da79f1f4d926356568f1922985e841e9fb27d6c48"), looks := false }, kinds := [], alts := [], laidByText := true, laidKinds := [.data, .data], laidTests := true, laidLooks := .later }
def TrimTakesUptoCardSaid : Prop := Claim7.holds Tryz.pinned (.plain (OpenSpec.upto trimTakesSpec)) trimTakesUptoCard

/-- THE SECOND FORM's CARD OF 'umlautlaw09.TrimTwice'. -/
def trimTwiceUptoCard : Claim7 := { stood := { row := trimTwiceUptoRow, standIns := [], harness := (true, "843f0e2202f82908751f164da79f1f4d926356568f1922985e841e9fb27d6c48"), looks := false }, kinds := [], alts := [], laidByText := true, laidKinds := [.data, .data], laidTests := true, laidLooks := .later }
def TrimTwiceUptoCardSaid : Prop := Claim7.holds Tryz.pinned (.plain (OpenSpec.upto trimTwiceSpec)) trimTwiceUptoCard

/-- THE SECOND FORM's CARD OF 'umlautlaw09.TrimChain'. -/
def trimChainUptoCard : Claim7 := { stood := { row := trimChainUptoRow, standIns := [], harness := (true, "843f0e2202f82908751f164da79f1f4d926356568f1922985e841e9fb27d6c48"), looks := false }, kinds := [], alts := [], laidByText := true, laidKinds := [.data, .data], laidTests := true, laidLooks := .later }
def TrimChainUptoCardSaid : Prop := Claim7.holds Tryz.pinned (.plain (OpenSpec.upto trimChainSpec)) trimChainUptoCard
end Rows
end Go.Proofs.YtoofgpoeheponaaGreatDoor
