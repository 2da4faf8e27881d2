/-
  DERIVED. GIVEN WITH THE SEED: THE CARDS: each row of YtjhgboncipnkeaaDoorRows.lean that lists a variable, with what it lists TIED to the program's text (the seventh form; the later family's looks); each row that meets fmt, with fmt's text TOLD by the authors' own Lean function (tested against real Go, not proved from fmt's source: count such statements apart). THE CARD IS WHAT COUNTS. Prove the row's statement (the work); the ties are given (YtjhgboncipnkeaaDoorTie.lean); close each card by the builder's one call (the guide's Derived/Test/ToyasCard.lean, 'card_holds'). Laid BY PROGRAM, IN A SANDBOX (cutbox-door.mjs). By AI agents, Wed Nov 11 2026. No macro, syntax, notation, axiom, sorry.
-/
import Derived.Test.YtjhgboncipnkeaaDoorRows
import GoSem.ClaimSeven
namespace Go.Proofs.YtjhgboncipnkeaaDoor
namespace Rows

/-- THE TIED CARD OF 'umlautlaw10.UtfEncodes'. -/
def utfEncodesCard : Claim7 := { stood := { row := utfEncodesRow, standIns := [], harness := (true, "7e02ea8ef26dd404f8e575816585d9386a13816f60e8106c19e0b44bdd3cfb5c"), looks := false }, kinds := [], alts := [], laidByText := true, laidKinds := [.data, .data], laidTests := true, laidLooks := .later }
def UtfEncodesCardSaid : Prop := Claim7.holds Tryd.pinned (.plain (OpenSpec.ofChange utfEncodesSpec)) utfEncodesCard

/-- THE TIED CARD OF 'umlautlaw10.UtfScans'. -/
def utfScansCard : Claim7 := { stood := { row := utfScansRow, standIns := [], harness := (true, "7e02ea8ef26dd404f8e575816585d9386a13816f60e8106c19e0b44bdd3cfb5c"), looks := false }, kinds := [], alts := [], laidByText := true, laidKinds := [.data, .data], laidTests := true, laidLooks := .later }
def UtfScansCardSaid : Prop := Claim7.holds Tryd.pinned (.plain (OpenSpec.ofChange utfScansSpec)) utfScansCard

/-- THE TIED CARD OF 'umlautlaw10.UtfDecodes'. -/
def utfDecodesCard : Claim7 := { stood := { row := utfDecodesRow, standIns := [], harness := (true, "7e02ea8ef26dd404f8e575816585d9386a13816f60e8106c19e0b44bdd3cfb5c"), looks := false }, kinds := [], alts := [], laidByText := true, laidKinds := [.data, .data], laidTests := true, laidLooks := .later }
def UtfDecodesCardSaid : Prop := Claim7.holds Tryd.pinned (.plain (OpenSpec.ofChange utfDecodesSpec)) utfDecodesCard

/-- THE TIED CARD OF 'umlautlaw10.UtfRows'. -/
def utfRowsCard : Claim7 := { stood := { row := utfRowsRow, standIns := [], harness := (true, "7e02ea8ef26dd404f8e575816585d9386a13816f60e8106c19e0b44bdd3cfb5c"), looks := false }, kinds := [], alts := [], laidByText := true, laidKinds := [.data, .data], laidTests := true, laidLooks := .later }
def UtfRowsCardSaid : Prop := Claim7.holds Tryd.pinned (.plain (OpenSpec.ofChange utfRowsSpec)) utfRowsCard

/-- THE TIED CARD OF 'umlautlaw10.UtfBack'. -/
def utfBackCard : Claim7 := { stood := { row := utfBackRow, standIns := [], harness := (true, "7e02ea8ef26dd404f8e575816585d9386a13816f60e8106c19e0b44bdd3cfb5c"), looks := false }, kinds := [], alts := [], laidByText := true, laidKinds := [.data, .data], laidTests := true, laidLooks := .later }
def UtfBackCardSaid : Prop := Claim7.holds Tryd.pinned (.plain (OpenSpec.ofChange utfBackSpec)) utfBackCard

/-- THE TIED CARD OF 'umlautlaw10.UtfJoins'. -/
def utfJoinsCard : Claim7 := { stood := { row := utfJoinsRow, standIns := [], harness := (true, "7e02ea8ef26dd404f8e575816585d9386a13816f60e8106c19e0b44bdd3cfb5c"), looks := false }, kinds := [], alts := [], laidByText := true, laidKinds := [.data, .data], laidTests := true, laidLooks := .later }
def UtfJoinsCardSaid : Prop := Claim7.holds Tryd.pinned (.plain (OpenSpec.ofChange utfJoinsSpec)) utfJoinsCard

/-- THE TIED CARD OF 'umlautlaw10.UtfParts'. -/
def utfPartsCard : Claim7 := { stood := { row := utfPartsRow, standIns := [], harness := (true, "7e02ea8ef26dd404f8e575816585d9386a13816f60e8106c19e0b44bdd3cfb5c"), looks := false }, kinds := [], alts := [], laidByText := true, laidKinds := [.data, .data], laidTests := true, laidLooks := .later }
def UtfPartsCardSaid : Prop := Claim7.holds Tryd.pinned (.plain (OpenSpec.ofChange utfPartsSpec)) utfPartsCard

/-- THE SECOND FORM's CARD OF 'umlautlaw10.UtfEncodes'. -/
def utfEncodesUptoCard : Claim7 := { stood := { row := utfEncodesUptoRow, standIns := [], harness := (true, "7e02ea8ef26dd404f8e575816585d9386a13816f60e8106c19e0b44bdd3cfb5c"), looks := false }, kinds := [], alts := [], laidByText := true, laidKinds := [.data, .data], laidTests := true, laidLooks := .later }
def UtfEncodesUptoCardSaid : Prop := Claim7.holds Tryd.pinned (.plain (OpenSpec.upto utfEncodesSpec)) utfEncodesUptoCard

/-- THE SECOND FORM's CARD OF 'umlautlaw10.UtfScans'. -/
def utfScansUptoCard : Claim7 := { stood := { row := utfScansUptoRow, standIns := [], harness := (true, "7e02ea8ef26dd404f8e575816585d9386a13816f60e8106c19e0b44bdd3cfb5c"), looks := false }, kinds := [], alts := [], laidByText := true, laidKinds := [.data, .data], laidTests := true, laidLooks := .later }
def UtfScansUptoCardSaid : Prop := Claim7.holds Tryd.pinned (.plain (OpenSpec.upto utfScansSpec)) utfScansUptoCard

/-- THE SECOND FORM's CARD OF 'umlautlaw10.UtfDecodes'. -/
def utfDecodesUptoCard : Claim7 := { stood := { row := utfDecodesUptoRow, standIns := [], harness := (true, "7e02ea8ef26dd404f8e575816585d9386a13816f60e8106c19e0b44bdd3cfb5c"), looks := false }, kinds := [], alts := [], laidByText := true, laidKinds := [.data, .data], laidTests := true, laidLooks := .later }
def UtfDecodesUptoCardSaid : Prop := Claim7.holds Tryd.pinned (.plain (OpenSpec.upto utfDecodesSpec)) utfDecodesUptoCard

/-- THE SECOND FORM's CARD OF 'umlautlaw10.UtfRows'. -/
def utfRowsUptoCard : Claim7 := { stood := { row := utfRowsUptoRow, standIns := [], harness := (true, "7e02ea8ef26dd404f8e575816585d9386a13816f60e8106c19e0b44bdd3cfb5c"), looks := false }, kinds := [], alts := [], laidByText := true, laidKinds := [.data, .data], laidTests := true, laidLooks := .later }
def UtfRowsUptoCardSaid : Prop := Claim7.holds Tryd.pinned (.plain (OpenSpec.upto utfRowsSpec)) utfRowsUptoCard

/-- THE SECOND FORM's CARD OF 'umlautlaw10.UtfBack'. -/
def utfBackUptoCard : Claim7 := { stood := { row := utfBackUptoRow, standIns := [], harness := (true, "7e02ea8ef26dd404f8e575816585d9386a13816f60e8106c19e0b44bdd3cfb5c"), looks := false }, kinds := [], alts := [], laidByText := true, laidKinds := [.data, .data], laidTests := true, laidLooks := .later }
def UtfBackUptoCardSaid : Prop := Claim7.holds Tryd.pinned (.plain (OpenSpec.upto utfBackSpec)) utfBackUptoCard

/-- THE SECOND FORM's CARD OF 'umlautlaw10.UtfJoins'. -/
def utfJoinsUptoCard : Claim7 := { stood := { row := utfJoinsUptoRow, standIns := [], harness := (true, "7e02ea8ef26dd404f8e575816585d9386a13816f60e8106c19e0b44bdd3cfb5c"), looks := false }, kinds := [], alts := [], laidByText := true, laidKinds := [.data, .data], laidTests := true, laidLooks := .later }
def UtfJoinsUptoCardSaid : Prop := Claim7.holds Tryd.pinned (.plain (OpenSpec.upto utfJoinsSpec)) utfJoinsUptoCard

/-- THE SECOND FORM's CARD OF 'umlautlaw10.UtfParts'. -/
def utfPartsUptoCard : Claim7 := { stood := { row := utfPartsUptoRow, standIns := [], harness := (true, "7e02ea8ef26dd404f8e575816585d9386a13816f60e8106c19e0b44bdd3cfb5c"), looks := false }, kinds := [], alts := [], laidByText := true, laidKinds := [.data, .data], laidTests := true, laidLooks := .later }
def UtfPartsUptoCardSaid : Prop := Claim7.holds Tryd.pinned (.plain (OpenSpec.upto utfPartsSpec)) utfPartsUptoCard
end Rows
end Go.Proofs.YtjhgboncipnkeaaDoor
