/-
  DERIVED. GIVEN WITH THE SEED: THE CARDS: each row of YtiddgfcoankpjaaDoorRows.lean that lists a variable, with what it lists TIED to the program's text (the seventh form; the later family's looks); each row that meets fmt, with fmt's text TOLD by the authors' own Lean function (tested against real Go, not proved from fmt's source: count such statements apart). THE CARD IS WHAT COUNTS. Prove the row's statement (the work); the ties are given (YtiddgfcoankpjaaDoorTie.lean); close each card by the builder's one call (the guide's Derived/Test/ToyasCard.lean, 'card_holds'). Laid BY PROGRAM, IN A SANDBOX (cutbox-door.mjs). By AI agents, Wed Nov 11 2026. No macro, syntax, notation, axiom, sorry.
-/
import Derived.Test.YtiddgfcoankpjaaDoorRows
import GoSem.ClaimSeven
namespace Go.Proofs.YtiddgfcoankpjaaDoor
namespace Rows

/-- THE TIED CARD OF 'umlautlaw04.TermPoints'. -/
def termPointsCard : Claim7 := { stood := { row := termPointsRow, standIns := [], harness := (true, "94263d34310a7c32a75abae7bf815ad59547a0e965f64e8f9effb6b55e4c8135"), looks := false }, kinds := [], alts := [], laidByText := true, laidKinds := [.data, .data], laidTests := true, laidLooks := .later }
def TermPointsCardSaid : Prop := Claim7.holds Tryd.pinned (.plain (OpenSpec.ofChange termPointsSpec)) termPointsCard

/-- THE SECOND FORM's CARD OF 'umlautlaw04.TermPoints'. -/
def termPointsUptoCard : Claim7 := { stood := { row := termPointsUptoRow, standIns := [], harness := (true, "94263d34310a7c32a75abae7bf815ad59547a0e965f64e8f9effb6b55e4c8135"), looks := false }, kinds := [], alts := [], laidByText := true, laidKinds := [.data, .data], laidTests := true, laidLooks := .later }
def TermPointsUptoCardSaid : Prop := Claim7.holds Tryd.pinned (.plain (OpenSpec.upto termPointsSpec)) termPointsUptoCard
end Rows
end Go.Proofs.YtiddgfcoankpjaaDoor
