/-
  DERIVED. GIVEN WITH THE SEED: THE CARDS: each row of YthmmmblkjgcchaaDoorRows.lean that lists a variable, with what it lists TIED to the program's text (the seventh form; the later family's looks); each row that meets fmt, with fmt's text TOLD by the authors' own Lean function (tested against real Go, not proved from fmt's source: count such statements apart). THE CARD IS WHAT COUNTS. Prove the row's statement (the work); the ties are given (YthmmmblkjgcchaaDoorTie.lean); close each card by the builder's one call (the guide's Derived/Test/ToyasCard.lean, 'card_holds'). Laid BY PROGRAM, IN A SANDBOX (cutbox-door.mjs). By AI agents, Wed Nov 11 2026. No macro, syntax, notation, axiom, sorry.
-/
import Derived.Test.YthmmmblkjgcchaaDoorRows
import GoSem.ClaimSeven
namespace Go.Proofs.YthmmmblkjgcchaaDoor
namespace Rows

/-- THE TIED CARD OF 'gloaminglaw12.GateBetween'. -/
def gateBetweenCard : Claim7 := { stood := { row := gateBetweenRow, standIns := [], harness := (true, "e5debda6dfac736fea551979231ffacdcaebc9c389283fd32497db682e82e6d1"), looks := false }, kinds := [], alts := [], laidByText := true, laidKinds := [.data], laidTests := true, laidLooks := .later }
def GateBetweenCardSaid : Prop := Claim7.holds Tryd.pinned (.plain (OpenSpec.ofChange gateBetweenSpec)) gateBetweenCard

/-- THE TIED CARD OF 'gloaminglaw12.GateOf'. -/
def gateOfCard : Claim7 := { stood := { row := gateOfRow, standIns := [], harness := (true, "e5debda6dfac736fea551979231ffacdcaebc9c389283fd32497db682e82e6d1"), looks := false }, kinds := [], alts := [], laidByText := true, laidKinds := [.data], laidTests := true, laidLooks := .later }
def GateOfCardSaid : Prop := Claim7.holds Tryd.pinned (.plain (OpenSpec.ofChange gateOfSpec)) gateOfCard

/-- THE TIED CARD OF 'gloaminglaw12.GateCells'. -/
def gateCellsCard : Claim7 := { stood := { row := gateCellsRow, standIns := [], harness := (true, "e5debda6dfac736fea551979231ffacdcaebc9c389283fd32497db682e82e6d1"), looks := false }, kinds := [], alts := [], laidByText := true, laidKinds := [.data], laidTests := true, laidLooks := .later }
def GateCellsCardSaid : Prop := Claim7.holds Tryd.pinned (.plain (OpenSpec.ofChange gateCellsSpec)) gateCellsCard

/-- THE TIED CARD OF 'gloaminglaw12.GateRuns'. -/
def gateRunsCard : Claim7 := { stood := { row := gateRunsRow, standIns := [], harness := (true, "e5debda6dfac736fea551979231ffacdcaebc9c389283fd32497db682e82e6d1"), looks := false }, kinds := [], alts := [], laidByText := true, laidKinds := [.data], laidTests := true, laidLooks := .later }
def GateRunsCardSaid : Prop := Claim7.holds Tryd.pinned (.plain (OpenSpec.ofChange gateRunsSpec)) gateRunsCard

/-- THE TIED CARD OF 'gloaminglaw12.GateStays'. -/
def gateStaysCard : Claim7 := { stood := { row := gateStaysRow, standIns := [], harness := (true, "e5debda6dfac736fea551979231ffacdcaebc9c389283fd32497db682e82e6d1"), looks := false }, kinds := [], alts := [], laidByText := true, laidKinds := [.data], laidTests := true, laidLooks := .later }
def GateStaysCardSaid : Prop := Claim7.holds Tryd.pinned (.plain (OpenSpec.ofChange gateStaysSpec)) gateStaysCard

/-- THE SECOND FORM's CARD OF 'gloaminglaw12.GateBetween'. -/
def gateBetweenUptoCard : Claim7 := { stood := { row := gateBetweenUptoRow, standIns := [], harness := (true, "e5debda6dfac736fea551979231ffacdcaebc9c389283fd32497db682e82e6d1"), looks := false }, kinds := [], alts := [], laidByText := true, laidKinds := [.data], laidTests := true, laidLooks := .later }
def GateBetweenUptoCardSaid : Prop := Claim7.holds Tryd.pinned (.plain (OpenSpec.upto gateBetweenSpec)) gateBetweenUptoCard

/-- THE SECOND FORM's CARD OF 'gloaminglaw12.GateOf'. -/
def gateOfUptoCard : Claim7 := { stood := { row := gateOfUptoRow, standIns := [], harness := (true, "e5debda6dfac736fea551979231ffacdcaebc9c389283fd32497db682e82e6d1"), looks := false }, kinds := [], alts := [], laidByText := true, laidKinds := [.data], laidTests := true, laidLooks := .later }
def GateOfUptoCardSaid : Prop := Claim7.holds Tryd.pinned (.plain (OpenSpec.upto gateOfSpec)) gateOfUptoCard

/-- THE SECOND FORM's CARD OF 'gloaminglaw12.GateCells'. -/
def gateCellsUptoCard : Claim7 := { stood := { row := gateCellsUptoRow, standIns := [], harness := (true, "e5debda6dfac736fea551979231ffacdcaebc9c389283fd32497db682e82e6d1"), looks := false }, kinds := [], alts := [], laidByText := true, laidKinds := [.data], laidTests := true, laidLooks := .later }
def GateCellsUptoCardSaid : Prop := Claim7.holds Tryd.pinned (.plain (OpenSpec.upto gateCellsSpec)) gateCellsUptoCard

/-- THE SECOND FORM's CARD OF 'gloaminglaw12.GateRuns'. -/
def gateRunsUptoCard : Claim7 := { stood := { row := gateRunsUptoRow, standIns := [], harness := (true, "e5debda6dfac736fea551979231ffacdcaebc9c389283fd32497db682e82e6d1"), looks := false }, kinds := [], alts := [], laidByText := true, laidKinds := [.data], laidTests := true, laidLooks := .later }
def GateRunsUptoCardSaid : Prop := Claim7.holds Tryd.pinned (.plain (OpenSpec.upto gateRunsSpec)) gateRunsUptoCard

/-- THE SECOND FORM's CARD OF 'gloaminglaw12.GateStays'. -/
def gateStaysUptoCard : Claim7 := { stood := { row := gateStaysUptoRow, standIns := [], harness := (true, "e5debda6dfac736fea551979231ffacdcaebc9c389283fd32497db682e82e6d1"), looks := false }, kinds := [], alts := [], laidByText := true, laidKinds := [.data], laidTests := true, laidLooks := .later }
def GateStaysUptoCardSaid : Prop := Claim7.holds Tryd.pinned (.plain (OpenSpec.upto gateStaysSpec)) gateStaysUptoCard
end Rows
end Go.Proofs.YthmmmblkjgcchaaDoor
