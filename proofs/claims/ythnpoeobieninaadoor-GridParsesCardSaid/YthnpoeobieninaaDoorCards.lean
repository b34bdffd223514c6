/-
  DERIVED. GIVEN WITH THE SEED: THE CARDS: each row of YthnpoeobieninaaDoorRows.lean that lists a variable, with what it lists TIED to the program's text (the seventh form; the later family's looks); each row that meets fmt, with fmt's text TOLD by the authors' own Lean function (tested against real Go, not proved from fmt's source: count such statements apart). THE CARD IS WHAT COUNTS. Prove the row's statement (the work); the ties are given (YthnpoeobieninaaDoorTie.lean); close each card by the builder's one call (the guide's Derived/Test/ToyasCard.lean, 'card_holds'). Laid BY PROGRAM, IN A SANDBOX (cutbox-door.mjs). By AI agents, Wed Nov 11 2026. No macro, syntax, notation, axiom, sorry.
-/
import Derived.Test.YthnpoeobieninaaDoorRows
import GoSem.ClaimSeven
namespace Go.Proofs.YthnpoeobieninaaDoor
namespace Rows

/-- THE TIED CARD OF 'gloaminglaw04.GridEdits'. -/
def gridEditsCard : Claim7 := { stood := { row := gridEditsRow, standIns := [], harness := (true, "d699a6be34396bcf9e442fb26e053e2af811906657582d59765e7d26e385c74b"), looks := true }, kinds := [], alts := [], laidByText := true, laidKinds := [.data, .data, .data, .data, .sentinel, .sentinel, .pinned], laidTests := true, laidLooks := .later }
def GridEditsCardSaid : Prop := Claim7.holds Tryd.pinned (.plain (OpenSpec.ofChange gridEditsSpec)) gridEditsCard

/-- THE TIED CARD OF 'gloaminglaw04.GridPrints'. -/
def gridPrintsCard : Claim7 := { stood := { row := gridPrintsRow, standIns := [], harness := (true, "d699a6be34396bcf9e442fb26e053e2af811906657582d59765e7d26e385c74b"), looks := true }, kinds := [], alts := [], laidByText := true, laidKinds := [.data, .data, .data, .data, .sentinel, .sentinel, .pinned], laidTests := true, laidLooks := .later }
def GridPrintsCardSaid : Prop := Claim7.holds Tryd.pinned (.plain (OpenSpec.ofChange gridPrintsSpec)) gridPrintsCard

/-- THE TIED CARD OF 'gloaminglaw04.GridParses'. -/
def gridParsesCard : Claim7 := { stood := { row := gridParsesRow, standIns := [], harness := (true, "d699a6be34396bcf9e442fb26e053e2af811906657582d59765e7d26e385c74b"), looks := true }, kinds := [], alts := [], laidByText := true, laidKinds := [.data, .data, .data, .data, .sentinel, .sentinel, .pinned], laidTests := true, laidLooks := .later }
def GridParsesCardSaid : Prop := Claim7.holds Tryd.pinned (.plain (OpenSpec.ofChange gridParsesSpec)) gridParsesCard

/-- THE TIED CARD OF 'gloaminglaw04.GridBack'. -/
def gridBackCard : Claim7 := { stood := { row := gridBackRow, standIns := [], harness := (true, "d699a6be34396bcf9e442fb26e053e2af811906657582d59765e7d26e385c74b"), looks := true }, kinds := [], alts := [], laidByText := true, laidKinds := [.data, .data, .data, .data, .sentinel, .sentinel, .pinned], laidTests := true, laidLooks := .later }
def GridBackCardSaid : Prop := Claim7.holds Tryd.pinned (.plain (OpenSpec.ofChange gridBackSpec)) gridBackCard

/-- THE TIED CARD OF 'gloaminglaw04.GridLast'. -/
def gridLastCard : Claim7 := { stood := { row := gridLastRow, standIns := [], harness := (true, "d699a6be34396bcf9e442fb26e053e2af811906657582d59765e7d26e385c74b"), looks := true }, kinds := [], alts := [], laidByText := true, laidKinds := [.data, .data, .data, .data, .sentinel, .sentinel, .pinned], laidTests := true, laidLooks := .later }
def GridLastCardSaid : Prop := Claim7.holds Tryd.pinned (.plain (OpenSpec.ofChange gridLastSpec)) gridLastCard

/-- THE SECOND FORM's CARD OF 'gloaminglaw04.GridEdits'. -/
def gridEditsUptoCard : Claim7 := { stood := { row := gridEditsUptoRow, standIns := [], harness := (true, "d699a6be34396bcf9e442fb26e053e2af811906657582d59765e7d26e385c74b"), looks := true }, kinds := [], alts := [], laidByText := true, laidKinds := [.data, .data, .data, .data, .sentinel, .sentinel, .pinned], laidTests := true, laidLooks := .later }
def GridEditsUptoCardSaid : Prop := Claim7.holds Tryd.pinned (.plain (OpenSpec.upto gridEditsSpec)) gridEditsUptoCard

/-- THE SECOND FORM's CARD OF 'gloaminglaw04.GridPrints'. -/
def gridPrintsUptoCard : Claim7 := { stood := { row := gridPrintsUptoRow, standIns := [], harness := (true, "d699a6be34396bcf9e442fb26e053e2af811906657582d59765e7d26e385c74b"), looks := true }, kinds := [], alts := [], laidByText := true, laidKinds := [.data, .data, .data, .data, .sentinel, .sentinel, .pinned], laidTests := true, laidLooks := .later }
def GridPrintsUptoCardSaid : Prop := Claim7.holds Tryd.pinned (.plain (OpenSpec.upto gridPrintsSpec)) gridPrintsUptoCard

/-- THE SECOND FORM's CARD OF 'gloaminglaw04.GridParses'. -/
def gridParsesUptoCard : Claim7 := { stood := { row := gridParsesUptoRow, standIns := [], harness := (true, "d699a6be34396bcf9e442fb26e053e2af811906657582d59765e7d26e385c74b"), looks := true }, kinds := [], alts := [], laidByText := true, laidKinds := [.data, .data, .data, .data, .sentinel, .sentinel, .pinned], laidTests := true, laidLooks := .later }
def GridParsesUptoCardSaid : Prop := Claim7.holds Tryd.pinned (.plain (OpenSpec.upto gridParsesSpec)) gridParsesUptoCard

/-- THE SECOND FORM's CARD OF 'gloaminglaw04.GridBack'. -/
def gridBackUptoCard : Claim7 := { stood := { row := gridBackUptoRow, standIns := [], harness := (true, "d699a6be34396bcf9e442fb26e053e2af811906657582d59765e7d26e385c74b"), looks := true }, kinds := [], alts := [], laidByText := true, laidKinds := [.data, .data, .data, .data, .sentinel, .sentinel, .pinned], laidTests := true, laidLooks := .later }
def GridBackUptoCardSaid : Prop := Claim7.holds Tryd.pinned (.plain (OpenSpec.upto gridBackSpec)) gridBackUptoCard

/-- THE SECOND FORM's CARD OF 'gloaminglaw04.GridLast'. -/
def gridLastUptoCard : Claim7 := { stood := { row := gridLastUptoRow, standIns := [], harness := (true, "d699a6be34396bcf9e442fb26e053e2af811906657582d59765e7d26e385c74b"), looks := true }, kinds := [], alts := [], laidByText := true, laidKinds := [.data, .data, .data, .data, .sentinel, .sentinel, .pinned], laidTests := true, laidLooks := .later }
def GridLastUptoCardSaid : Prop := Claim7.holds Tryd.pinned (.plain (OpenSpec.upto gridLastSpec)) gridLastUptoCard
end Rows
end Go.Proofs.YthnpoeobieninaaDoor
