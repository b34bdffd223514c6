/-
  DERIVED. GIVEN WITH THE SEED: THE CARDS: each row of YtdajddcladapaaaDoorRows.lean that lists a variable, with what it lists TIED to the program's text (the seventh form; the later family's looks); each row that meets fmt, with fmt's text TOLD by the authors' own Lean function (tested against real Go, not proved from fmt's source: count such statements apart). THE CARD IS WHAT COUNTS. Prove the row's statement (the work); the ties are given (YtdajddcladapaaaDoorTie.lean); close each card by the builder's one call (the guide's Derived/Test/ToyasCard.lean, 'card_holds'). Laid BY PROGRAM, IN A SANDBOX (cutbox-door.mjs). By AI agents, Wed Nov 11 2026. No macro, syntax, notation, axiom, sorry.
-/
import Derived.Test.YtdajddcladapaaaDoorRows
import GoSem.ClaimSeven
namespace Go.Proofs.YtdajddcladapaaaDoor
namespace Rows

/-- THE TIED CARD OF 'gloaminglaw11.PartNew'. -/
def partNewCard : Claim7 := { stood := { row := partNewRow, standIns := [], harness := (true, "20c3dd7e6f79f374c30bcf4c58cf26659aef323a530a0b7ef5259f801596ee39"), looks := false }, kinds := [], alts := [], laidByText := true, laidKinds := [.data], laidTests := true, laidLooks := .later }
def PartNewCardSaid : Prop := Claim7.holds Tryd.pinned (.plain (OpenSpec.ofChange partNewSpec)) partNewCard

/-- THE TIED CARD OF 'gloaminglaw11.PartBoxes'. -/
def partBoxesCard : Claim7 := { stood := { row := partBoxesRow, standIns := [], harness := (true, "20c3dd7e6f79f374c30bcf4c58cf26659aef323a530a0b7ef5259f801596ee39"), looks := false }, kinds := [], alts := [], laidByText := true, laidKinds := [.data], laidTests := true, laidLooks := .later }
def PartBoxesCardSaid : Prop := Claim7.holds Tryd.pinned (.plain (OpenSpec.ofChange partBoxesSpec)) partBoxesCard

/-- THE TIED CARD OF 'gloaminglaw11.PartBorders'. -/
def partBordersCard : Claim7 := { stood := { row := partBordersRow, standIns := [], harness := (true, "20c3dd7e6f79f374c30bcf4c58cf26659aef323a530a0b7ef5259f801596ee39"), looks := false }, kinds := [], alts := [], laidByText := true, laidKinds := [.data], laidTests := true, laidLooks := .later }
def PartBordersCardSaid : Prop := Claim7.holds Tryd.pinned (.plain (OpenSpec.ofChange partBordersSpec)) partBordersCard

/-- THE TIED CARD OF 'gloaminglaw11.PartWhole'. -/
def partWholeCard : Claim7 := { stood := { row := partWholeRow, standIns := [], harness := (true, "20c3dd7e6f79f374c30bcf4c58cf26659aef323a530a0b7ef5259f801596ee39"), looks := false }, kinds := [], alts := [], laidByText := true, laidKinds := [.data], laidTests := true, laidLooks := .later }
def PartWholeCardSaid : Prop := Claim7.holds Tryd.pinned (.plain (OpenSpec.ofChange partWholeSpec)) partWholeCard

/-- THE TIED CARD OF 'gloaminglaw11.PartSides'. -/
def partSidesCard : Claim7 := { stood := { row := partSidesRow, standIns := [], harness := (true, "20c3dd7e6f79f374c30bcf4c58cf26659aef323a530a0b7ef5259f801596ee39"), looks := false }, kinds := [], alts := [], laidByText := true, laidKinds := [.data], laidTests := true, laidLooks := .later }
def PartSidesCardSaid : Prop := Claim7.holds Tryd.pinned (.plain (OpenSpec.ofChange partSidesSpec)) partSidesCard

/-- THE SECOND FORM's CARD OF 'gloaminglaw11.PartNew'. -/
def partNewUptoCard : Claim7 := { stood := { row := partNewUptoRow, standIns := [], harness := (true, "20c3dd7e6f79f374c30bcf4c58cf26659aef323a530a0b7ef5259f801596ee39"), looks := false }, kinds := [], alts := [], laidByText := true, laidKinds := [.data], laidTests := true, laidLooks := .later }
def PartNewUptoCardSaid : Prop := Claim7.holds Tryd.pinned (.plain (OpenSpec.upto partNewSpec)) partNewUptoCard

/-- THE SECOND FORM's CARD OF 'gloaminglaw11.PartBoxes'. -/
def partBoxesUptoCard : Claim7 := { stood := { row := partBoxesUptoRow, standIns := [], harness := (true, "20c3dd7e6f79f374c30bcf4c58cf26659aef323a530a0b7ef5259f801596ee39"), looks := false }, kinds := [], alts := [], laidByText := true, laidKinds := [.data], laidTests := true, laidLooks := .later }
def PartBoxesUptoCardSaid : Prop := Claim7.holds Tryd.pinned (.plain (OpenSpec.upto partBoxesSpec)) partBoxesUptoCard

/-- THE SECOND FORM's CARD OF 'gloaminglaw11.PartBorders'. -/
def partBordersUptoCard : Claim7 := { stood := { row := partBordersUptoRow, standIns := [], harness := (true, "20c3dd7e6f79f374c30bcf4c58cf26659aef323a530a0b7ef5259f801596ee39"), looks := false }, kinds := [], alts := [], laidByText := true, laidKinds := [.data], laidTests := true, laidLooks := .later }
def PartBordersUptoCardSaid : Prop := Claim7.holds Tryd.pinned (.plain (OpenSpec.upto partBordersSpec)) partBordersUptoCard

/-- THE SECOND FORM's CARD OF 'gloaminglaw11.PartWhole'. -/
def partWholeUptoCard : Claim7 := { stood := { row := partWholeUptoRow, standIns := [], harness := (true, "20c3dd7e6f79f374c30bcf4c58cf26659aef323a530a0b7ef5259f801596ee39"), looks := false }, kinds := [], alts := [], laidByText := true, laidKinds := [.data], laidTests := true, laidLooks := .later }
def PartWholeUptoCardSaid : Prop := Claim7.holds Tryd.pinned (.plain (OpenSpec.upto partWholeSpec)) partWholeUptoCard

/-- THE SECOND FORM's CARD OF 'gloaminglaw11.PartSides'. -/
def partSidesUptoCard : Claim7 := { stood := { row := partSidesUptoRow, standIns := [], harness := (true, "20c3dd7e6f79f374c30bcf4c58cf26659aef323a530a0b7ef5259f801596ee39"), looks := false }, kinds := [], alts := [], laidByText := true, laidKinds := [.data], laidTests := true, laidLooks := .later }
def PartSidesUptoCardSaid : Prop := Claim7.holds Tryd.pinned (.plain (OpenSpec.upto partSidesSpec)) partSidesUptoCard
end Rows
end Go.Proofs.YtdajddcladapaaaDoor
