/-
  DERIVED. GIVEN WITH THE SEED: THE CARDS: each row of YtbdmcibcenhpnaaGreatDoorRows.lean that lists a variable, with what it lists TIED to the program's text (the seventh form; the later family's looks); each row that meets fmt, with fmt's text TOLD by the authors' own Lean function (tested against real Go, not proved from fmt's source: count such statements apart). THE CARD IS WHAT COUNTS. Prove the row's statement (the work); the ties are given (YtbdmcibcenhpnaaGreatDoorTie.lean); close each card by the builder's one call (the guide's Derived/Test/ToyasCard.lean, 'card_holds'). Laid BY PROGRAM, IN A SANDBOX (cutbox-door.mjs). By AI agents, Wed Nov 11 2026. No macro, syntax, notation, axiom, sorry.
-/
import Derived.Test.YtbdmcibcenhpnaaGreatDoorRows
import GoSem.ClaimSeven
namespace Go.Proofs.YtbdmcibcenhpnaaGreatDoor
namespace Rows

/-- THE TIED CARD OF 'umlautlaw08.EpsilonWays'. -/
def epsilonWaysCard : Claim7 := { stood := { row := epsilonWaysRow, standIns := [], harness := (true, "2dd7fff8d73ea2030f5fa4baae45eb48b7fac5e92ff45ec9b5b5446040b95ba9"), looks := false }, kinds := [], alts := [], laidByText := true, laidKinds := [.data, .data], laidTests := true, laidLooks := .later }
def EpsilonWaysCardSaid : Prop := Claim7.holds Tryz.pinned (.plain (OpenSpec.ofChange epsilonWaysSpec)) epsilonWaysCard

/-- THE TIED CARD OF 'umlautlaw08.EpsilonFrees'. -/
def epsilonFreesCard : Claim7 := { stood := { row := epsilonFreesRow, standIns := [], harness := (true, "2dd7fff8d73ea2030f5fa4baae45eb48b7fac5e92ff45ec9b5b5446040b95ba9"), looks := false }, kinds := [], alts := [], laidByText := true, laidKinds := [.data, .data], laidTests := true, laidLooks := .later }
def EpsilonFreesCardSaid : Prop := Claim7.holds Tryz.pinned (.plain (OpenSpec.ofChange epsilonFreesSpec)) epsilonFreesCard

/-- THE TIED CARD OF 'umlautlaw08.EpsilonTwice'. -/
def epsilonTwiceCard : Claim7 := { stood := { row := epsilonTwiceRow, standIns := [], harness := (true, "2dd7fff8d73ea2030f5fa4baae45eb48b7fac5e92ff45ec9b5b5446040b95ba9"), looks := false }, kinds := [], alts := [], laidByText := true, laidKinds := [.data, .data], laidTests := true, laidLooks := .later }
def EpsilonTwiceCardSaid : Prop := Claim7.holds Tryz.pinned (.plain (OpenSpec.ofChange epsilonTwiceSpec)) epsilonTwiceCard

/-- THE SECOND FORM's CARD OF 'umlautlaw08.EpsilonWays'. -/
def epsilonWaysUptoCard : Claim7 := { stood := { row := epsilonWaysUptoRow, standIns := [], harness := (true, "2dd7fff8d73ea2030f5fa4baae45eb48b7fac5e92ff45ec9b5b5446040b95ba9"), looks := false }, kinds := [], alts := [], laidByText := true, laidKinds := [.data, .data], laidTests := true, laidLooks := .later }
def EpsilonWaysUptoCardSaid : Prop := Claim7.holds Tryz.pinned (.plain (OpenSpec.upto epsilonWaysSpec)) epsilonWaysUptoCard

/-- THE SECOND FORM's CARD OF 'umlautlaw08.EpsilonFrees'. -/
def epsilonFreesUptoCard : Claim7 := { stood := { row := epsilonFreesUptoRow, standIns := [], harness := (true, "2dd7fff8d73ea2030f5fa4baae45eb48b7fac5e92ff45ec9b5b5446040b95ba9"), looks := false }, kinds := [], alts := [], laidByText := true, laidKinds := [.data, .data], laidTests := true, laidLooks := .later }
def EpsilonFreesUptoCardSaid : Prop := Claim7.holds Tryz.pinned (.plain (OpenSpec.upto epsilonFreesSpec)) epsilonFreesUptoCard

/-- THE SECOND FORM's CARD OF 'umlautlaw08.EpsilonTwice'. -/
def epsilonTwiceUptoCard : Claim7 := { stood := { row := epsilonTwiceUptoRow, standIns := [], harness := (true, "2dd7fff8d73ea2030f5fa4baae45eb48b7fac5e92ff45ec9b5b5446040b95ba9"), looks := false }, kinds := [], alts := [], laidByText := true, laidKinds := [.data, .data], laidTests := true, laidLooks := .later }
def EpsilonTwiceUptoCardSaid : Prop := Claim7.holds Tryz.pinned (.plain (OpenSpec.upto epsilonTwiceSpec)) epsilonTwiceUptoCard
end Rows
end Go.Proofs.YtbdmcibcenhpnaaGreatDoor
