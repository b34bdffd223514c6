/-
  DERIVED. GIVEN WITH THE SEED: THE CARDS: each row of YtlmloedjakpogabDoorRows.lean that lists a variable, with what it lists TIED to the program's text (the seventh form; the later family's looks); each row that meets fmt, with fmt's text TOLD by the authors' own Lean function (tested against real Go, not proved from fmt's source: count such statements apart). THE CARD IS WHAT COUNTS. Prove the row's statement (the work); the ties are given (YtlmloedjakpogabDoorTie.lean); close each card by the builder's one call (the guide's Derived/Test/ToyasCard.lean, 'card_holds'). Laid BY PROGRAM, IN A SANDBOX (cutbox-door.mjs). By AI agents, Wed Nov 11 2026. No macro, syntax, notation, axiom, sorry.
-/
import Derived.Test.YtlmloedjakpogabDoorRows
import GoSem.ClaimSeven
namespace Go.Proofs.YtlmloedjakpogabDoor
namespace Rows

/-- THE TIED CARD OF 'gloaminglaw09.RouteChecks'. -/
def routeChecksCard : Claim7 := { stood := { row := routeChecksRow, standIns := [], harness := (true, "3c263d78f3669896e05fcc704d4435920cabc56c257f98f85b1dbd93345388e5"), looks := false }, kinds := [], alts := [], laidByText := true, laidKinds := [.data], laidTests := true, laidLooks := .later }
def RouteChecksCardSaid : Prop := Claim7.holds Tryd.pinned (.plain (OpenSpec.ofChange routeChecksSpec)) routeChecksCard

/-- THE TIED CARD OF 'gloaminglaw09.RouteMoves'. -/
def routeMovesCard : Claim7 := { stood := { row := routeMovesRow, standIns := [], harness := (true, "3c263d78f3669896e05fcc704d4435920cabc56c257f98f85b1dbd93345388e5"), looks := false }, kinds := [], alts := [], laidByText := true, laidKinds := [.data], laidTests := true, laidLooks := .later }
def RouteMovesCardSaid : Prop := Claim7.holds Tryd.pinned (.plain (OpenSpec.ofChange routeMovesSpec)) routeMovesCard

/-- THE TIED CARD OF 'gloaminglaw09.RouteBacks'. -/
def routeBacksCard : Claim7 := { stood := { row := routeBacksRow, standIns := [], harness := (true, "3c263d78f3669896e05fcc704d4435920cabc56c257f98f85b1dbd93345388e5"), looks := false }, kinds := [], alts := [], laidByText := true, laidKinds := [.data], laidTests := true, laidLooks := .later }
def RouteBacksCardSaid : Prop := Claim7.holds Tryd.pinned (.plain (OpenSpec.ofChange routeBacksSpec)) routeBacksCard

/-- THE TIED CARD OF 'gloaminglaw09.RouteJoins'. -/
def routeJoinsCard : Claim7 := { stood := { row := routeJoinsRow, standIns := [], harness := (true, "3c263d78f3669896e05fcc704d4435920cabc56c257f98f85b1dbd93345388e5"), looks := false }, kinds := [], alts := [], laidByText := true, laidKinds := [.data], laidTests := true, laidLooks := .later }
def RouteJoinsCardSaid : Prop := Claim7.holds Tryd.pinned (.plain (OpenSpec.ofChange routeJoinsSpec)) routeJoinsCard

/-- THE TIED CARD OF 'gloaminglaw09.RouteTurns'. -/
def routeTurnsCard : Claim7 := { stood := { row := routeTurnsRow, standIns := [], harness := (true, "3c263d78f3669896e05fcc704d4435920cabc56c257f98f85b1dbd93345388e5"), looks := false }, kinds := [], alts := [], laidByText := true, laidKinds := [.data], laidTests := true, laidLooks := .later }
def RouteTurnsCardSaid : Prop := Claim7.holds Tryd.pinned (.plain (OpenSpec.ofChange routeTurnsSpec)) routeTurnsCard

/-- THE SECOND FORM's CARD OF 'gloaminglaw09.RouteChecks'. -/
def routeChecksUptoCard : Claim7 := { stood := { row := routeChecksUptoRow, standIns := [], harness := (true, "3c263d78f3669896e05fcc704d4435920cabc56c257f98f85b1dbd93345388e5"), looks := false }, kinds := [], alts := [], laidByText := true, laidKinds := [.data], laidTests := true, laidLooks := .later }
def RouteChecksUptoCardSaid : Prop := Claim7.holds Tryd.pinned (.plain (OpenSpec.upto routeChecksSpec)) routeChecksUptoCard

/-- THE SECOND FORM's CARD OF 'gloaminglaw09.RouteMoves'. -/
def routeMovesUptoCard : Claim7 := { stood := { row := routeMovesUptoRow, standIns := [], harness := (true, "3c263d78f3669896e05fcc704d4435920cabc56c257f98f85b1dbd93345388e5"), looks := false }, kinds := [], alts := [], laidByText := true, laidKinds := [.data], laidTests := true, laidLooks := .later }
def RouteMovesUptoCardSaid : Prop := Claim7.holds Tryd.pinned (.plain (OpenSpec.upto routeMovesSpec)) routeMovesUptoCard

/-- THE SECOND FORM's CARD OF 'gloaminglaw09.RouteBacks'. -/
def routeBacksUptoCard : Claim7 := { stood := { row := routeBacksUptoRow, standIns := [], harness := (true, "3c263d78f3669896e05fcc704d4435920cabc56c257f98f85b1dbd93345388e5"), looks := false }, kinds := [], alts := [], laidByText := true, laidKinds := [.data], laidTests := true, laidLooks := .later }
def RouteBacksUptoCardSaid : Prop := Claim7.holds Tryd.pinned (.plain (OpenSpec.upto routeBacksSpec)) routeBacksUptoCard

/-- THE SECOND FORM's CARD OF 'gloaminglaw09.RouteJoins'. -/
def routeJoinsUptoCard : Claim7 := { stood := { row := routeJoinsUptoRow, standIns := [], harness := (true, "3c263d78f3669896e05fcc704d4435920cabc56c257f98f85b1dbd93345388e5"), looks := false }, kinds := [], alts := [], laidByText := true, laidKinds := [.data], laidTests := true, laidLooks := .later }
def RouteJoinsUptoCardSaid : Prop := Claim7.holds Tryd.pinned (.plain (OpenSpec.upto routeJoinsSpec)) routeJoinsUptoCard

/-- THE SECOND FORM's CARD OF 'gloaminglaw09.RouteTurns'. -/
def routeTurnsUptoCard : Claim7 := { stood := { row := routeTurnsUptoRow, standIns := [], harness := (true, "3c263d78f3669896e05fcc704d4435920cabc56c257f98f85b1dbd93345388e5"), looks := false }, kinds := [], alts := [], laidByText := true, laidKinds := [.data], laidTests := true, laidLooks := .later }
def RouteTurnsUptoCardSaid : Prop := Claim7.holds Tryd.pinned (.plain (OpenSpec.upto routeTurnsSpec)) routeTurnsUptoCard
end Rows
end Go.Proofs.YtlmloedjakpogabDoor
