/-
  DERIVED. GIVEN WITH THE SEED: THE CARDS: each row of YtbdfjdipjacamaaDoorRows.lean that lists a variable, with what it lists TIED to the program's text (the seventh form; the later family's looks); each row that meets fmt, with fmt's text TOLD by the authors' own Lean function (tested against real Go, not proved from fmt's source: count such statements apart). THE CARD IS WHAT COUNTS. Prove the row's statement (the work); the ties are given (YtbdfjdipjacamaaDoorTie.lean); close each card by the builder's one call (the guide's Derived/Test/ToyasCard.lean, 'card_holds'). Laid BY PROGRAM, IN A SANDBOX (cutbox-door.mjs). By AI agents, Wed Nov 11 2026. No macro, syntax, notation, axiom, sorry.
-/
import Derived.Test.YtbdfjdipjacamaaDoorRows
import GoSem.ClaimSeven
namespace Go.Proofs.YtbdfjdipjacamaaDoor
namespace Rows

/-- THE TIED CARD OF 'gloaminglaw08.FloodFar'. -/
def floodFarCard : Claim7 := { stood := { row := floodFarRow, standIns := [], harness := (true, "bd8899e232734550fcac7a17353a99b8db384ed5fa0d167e6a04189da7f5727a"), looks := false }, kinds := [], alts := [], laidByText := true, laidKinds := [.data], laidTests := true, laidLooks := .later }
def FloodFarCardSaid : Prop := Claim7.holds Tryd.pinned (.plain (OpenSpec.ofChange floodFarSpec)) floodFarCard

/-- THE TIED CARD OF 'gloaminglaw08.FloodPaths'. -/
def floodPathsCard : Claim7 := { stood := { row := floodPathsRow, standIns := [], harness := (true, "bd8899e232734550fcac7a17353a99b8db384ed5fa0d167e6a04189da7f5727a"), looks := false }, kinds := [], alts := [], laidByText := true, laidKinds := [.data], laidTests := true, laidLooks := .later }
def FloodPathsCardSaid : Prop := Claim7.holds Tryd.pinned (.plain (OpenSpec.ofChange floodPathsSpec)) floodPathsCard

/-- THE TIED CARD OF 'gloaminglaw12.GateOf'. -/
def gateOfCard : Claim7 := { stood := { row := gateOfRow, standIns := [], harness := (true, "bd8899e232734550fcac7a17353a99b8db384ed5fa0d167e6a04189da7f5727a"), looks := false }, kinds := [], alts := [], laidByText := true, laidKinds := [.data], laidTests := true, laidLooks := .later }
def GateOfCardSaid : Prop := Claim7.holds Tryd.pinned (.plain (OpenSpec.ofChange gateOfSpec)) gateOfCard

/-- THE TIED CARD OF 'gloaminglaw13.InnerOf'. -/
def innerOfCard : Claim7 := { stood := { row := innerOfRow, standIns := [], harness := (true, "bd8899e232734550fcac7a17353a99b8db384ed5fa0d167e6a04189da7f5727a"), looks := false }, kinds := [], alts := [], laidByText := true, laidKinds := [.data], laidTests := true, laidLooks := .later }
def InnerOfCardSaid : Prop := Claim7.holds Tryd.pinned (.plain (OpenSpec.ofChange innerOfSpec)) innerOfCard

/-- THE TIED CARD OF 'gloaminglaw13.InnerTo'. -/
def innerToCard : Claim7 := { stood := { row := innerToRow, standIns := [], harness := (true, "bd8899e232734550fcac7a17353a99b8db384ed5fa0d167e6a04189da7f5727a"), looks := false }, kinds := [], alts := [], laidByText := true, laidKinds := [.data], laidTests := true, laidLooks := .later }
def InnerToCardSaid : Prop := Claim7.holds Tryd.pinned (.plain (OpenSpec.ofChange innerToSpec)) innerToCard

/-- THE TIED CARD OF 'gloaminglaw13.InnerVia'. -/
def innerViaCard : Claim7 := { stood := { row := innerViaRow, standIns := [], harness := (true, "bd8899e232734550fcac7a17353a99b8db384ed5fa0d167e6a04189da7f5727a"), looks := false }, kinds := [], alts := [], laidByText := true, laidKinds := [.data], laidTests := true, laidLooks := .later }
def InnerViaCardSaid : Prop := Claim7.holds Tryd.pinned (.plain (OpenSpec.ofChange innerViaSpec)) innerViaCard

/-- THE TIED CARD OF 'gloaminglaw13.InnerOwn'. -/
def innerOwnCard : Claim7 := { stood := { row := innerOwnRow, standIns := [], harness := (true, "bd8899e232734550fcac7a17353a99b8db384ed5fa0d167e6a04189da7f5727a"), looks := false }, kinds := [], alts := [], laidByText := true, laidKinds := [.data], laidTests := true, laidLooks := .later }
def InnerOwnCardSaid : Prop := Claim7.holds Tryd.pinned (.plain (OpenSpec.ofChange innerOwnSpec)) innerOwnCard

/-- THE TIED CARD OF 'gloaminglaw13.InnerSame'. -/
def innerSameCard : Claim7 := { stood := { row := innerSameRow, standIns := [], harness := (true, "bd8899e232734550fcac7a17353a99b8db384ed5fa0d167e6a04189da7f5727a"), looks := false }, kinds := [], alts := [], laidByText := true, laidKinds := [.data], laidTests := true, laidLooks := .later }
def InnerSameCardSaid : Prop := Claim7.holds Tryd.pinned (.plain (OpenSpec.ofChange innerSameSpec)) innerSameCard

/-- THE SECOND FORM's CARD OF 'gloaminglaw08.FloodFar'. -/
def floodFarUptoCard : Claim7 := { stood := { row := floodFarUptoRow, standIns := [], harness := (true, "bd8899e232734550fcac7a17353a99b8db384ed5fa0d167e6a04189da7f5727a"), looks := false }, kinds := [], alts := [], laidByText := true, laidKinds := [.data], laidTests := true, laidLooks := .later }
def FloodFarUptoCardSaid : Prop := Claim7.holds Tryd.pinned (.plain (OpenSpec.upto floodFarSpec)) floodFarUptoCard

/-- THE SECOND FORM's CARD OF 'gloaminglaw08.FloodPaths'. -/
def floodPathsUptoCard : Claim7 := { stood := { row := floodPathsUptoRow, standIns := [], harness := (true, "bd8899e232734550fcac7a17353a99b8db384ed5fa0d167e6a04189da7f5727a"), looks := false }, kinds := [], alts := [], laidByText := true, laidKinds := [.data], laidTests := true, laidLooks := .later }
def FloodPathsUptoCardSaid : Prop := Claim7.holds Tryd.pinned (.plain (OpenSpec.upto floodPathsSpec)) floodPathsUptoCard

/-- THE SECOND FORM's CARD OF 'gloaminglaw12.GateOf'. -/
def gateOfUptoCard : Claim7 := { stood := { row := gateOfUptoRow, standIns := [], harness := (true, "bd8899e232734550fcac7a17353a99b8db384ed5fa0d167e6a04189da7f5727a"), looks := false }, kinds := [], alts := [], laidByText := true, laidKinds := [.data], laidTests := true, laidLooks := .later }
def GateOfUptoCardSaid : Prop := Claim7.holds Tryd.pinned (.plain (OpenSpec.upto gateOfSpec)) gateOfUptoCard

/-- THE SECOND FORM's CARD OF 'gloaminglaw13.InnerOf'. -/
def innerOfUptoCard : Claim7 := { stood := { row := innerOfUptoRow, standIns := [], harness := (true, "bd8899e232734550fcac7a17353a99b8db384ed5fa0d167e6a04189da7f5727a"), looks := false }, kinds := [], alts := [], laidByText := true, laidKinds := [.data], laidTests := true, laidLooks := .later }
def InnerOfUptoCardSaid : Prop := Claim7.holds Tryd.pinned (.plain (OpenSpec.upto innerOfSpec)) innerOfUptoCard

/-- THE SECOND FORM's CARD OF 'gloaminglaw13.InnerTo'. -/
def innerToUptoCard : Claim7 := { stood := { row := innerToUptoRow, standIns := [], harness := (true, "bd8899e232734550fcac7a17353a99b8db384ed5fa0d167e6a04189da7f5727a"), looks := false }, kinds := [], alts := [], laidByText := true, laidKinds := [.data], laidTests := true, laidLooks := .later }
def InnerToUptoCardSaid : Prop := Claim7.holds Tryd.pinned (.plain (OpenSpec.upto innerToSpec)) innerToUptoCard

/-- THE SECOND FORM's CARD OF 'gloaminglaw13.InnerVia'. -/
def innerViaUptoCard : Claim7 := { stood := { row := innerViaUptoRow, standIns := [], harness := (true, "bd8899e232734550fcac7a17353a99b8db384ed5fa0d167e6a04189da7f5727a"), looks := false }, kinds := [], alts := [], laidByText := true, laidKinds := [.data], laidTests := true, laidLooks := .later }
def InnerViaUptoCardSaid : Prop := Claim7.holds Tryd.pinned (.plain (OpenSpec.upto innerViaSpec)) innerViaUptoCard

/-- THE SECOND FORM's CARD OF 'gloaminglaw13.InnerOwn'. -/
def innerOwnUptoCard : Claim7 := { stood := { row := innerOwnUptoRow, standIns := [], harness := (true, "bd8899e232734550fcac7a17353a99b8db384ed5fa0d167e6a04189da7f5727a"), looks := false }, kinds := [], alts := [], laidByText := true, laidKinds := [.data], laidTests := true, laidLooks := .later }
def InnerOwnUptoCardSaid : Prop := Claim7.holds Tryd.pinned (.plain (OpenSpec.upto innerOwnSpec)) innerOwnUptoCard

/-- THE SECOND FORM's CARD OF 'gloaminglaw13.InnerSame'. -/
def innerSameUptoCard : Claim7 := { stood := { row := innerSameUptoRow, standIns := [], harness := (true, "bd8899e232734550fcac7a17353a99b8db384ed5fa0d167e6a04189da7f5727a"), looks := false }, kinds := [], alts := [], laidByText := true, laidKinds := [.data], laidTests := true, laidLooks := .later }
def InnerSameUptoCardSaid : Prop := Claim7.holds Tryd.pinned (.plain (OpenSpec.upto innerSameSpec)) innerSameUptoCard
end Rows
end Go.Proofs.YtbdfjdipjacamaaDoor
