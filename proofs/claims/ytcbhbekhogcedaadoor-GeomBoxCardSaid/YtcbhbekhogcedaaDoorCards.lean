/-
  DERIVED. GIVEN WITH THE SEED: THE CARDS: each row of YtcbhbekhogcedaaDoorRows.lean that lists a variable, with what it lists TIED to the program's text (the seventh form; the later family's looks); each row that meets fmt, with fmt's text TOLD by the authors' own Lean function (tested against real Go, not proved from fmt's source: count such statements apart). THE CARD IS WHAT COUNTS. Prove the row's statement (the work); the ties are given (YtcbhbekhogcedaaDoorTie.lean); close each card by the builder's one call (the guide's Derived/Test/ToyasCard.lean, 'card_holds'). Laid BY PROGRAM, IN A SANDBOX (cutbox-door.mjs). By AI agents, Wed Nov 11 2026. No macro, syntax, notation, axiom, sorry.
-/
import Derived.Test.YtcbhbekhogcedaaDoorRows
import GoSem.ClaimSeven
namespace Go.Proofs.YtcbhbekhogcedaaDoor
namespace Rows

/-- THE TIED CARD OF 'gloaminglaw01.GeomBox'. -/
def geomBoxCard : Claim7 := { stood := { row := geomBoxRow, standIns := [], harness := (true, "9e57d5946480349157dc936605dea16c0aaec4f7ef0b59584cf5e4417c5b5dbf"), looks := false }, kinds := [], alts := [], laidByText := true, laidKinds := [.data], laidTests := true, laidLooks := .later }
def GeomBoxCardSaid : Prop := Claim7.holds Tryd.pinned (.plain (OpenSpec.ofChange geomBoxSpec)) geomBoxCard

/-- THE TIED CARD OF 'gloaminglaw01.GeomFits'. -/
def geomFitsCard : Claim7 := { stood := { row := geomFitsRow, standIns := [], harness := (true, "9e57d5946480349157dc936605dea16c0aaec4f7ef0b59584cf5e4417c5b5dbf"), looks := false }, kinds := [], alts := [], laidByText := true, laidKinds := [.data], laidTests := true, laidLooks := .later }
def GeomFitsCardSaid : Prop := Claim7.holds Tryd.pinned (.plain (OpenSpec.ofChange geomFitsSpec)) geomFitsCard

/-- THE SECOND FORM's CARD OF 'gloaminglaw01.GeomBox'. -/
def geomBoxUptoCard : Claim7 := { stood := { row := geomBoxUptoRow, standIns := [], harness := (true, "9e57d5946480349157dc936605dea16c0aaec4f7ef0b59584cf5e4417c5b5dbf"), looks := false }, kinds := [], alts := [], laidByText := true, laidKinds := [.data], laidTests := true, laidLooks := .later }
def GeomBoxUptoCardSaid : Prop := Claim7.holds Tryd.pinned (.plain (OpenSpec.upto geomBoxSpec)) geomBoxUptoCard

/-- THE SECOND FORM's CARD OF 'gloaminglaw01.GeomFits'. -/
def geomFitsUptoCard : Claim7 := { stood := { row := geomFitsUptoRow, standIns := [], harness := (true, "9e57d5946480349157dc936605dea16c0aaec4f7ef0b59584cf5e4417c5b5dbf"), looks := false }, kinds := [], alts := [], laidByText := true, laidKinds := [.data], laidTests := true, laidLooks := .later }
def GeomFitsUptoCardSaid : Prop := Claim7.holds Tryd.pinned (.plain (OpenSpec.upto geomFitsSpec)) geomFitsUptoCard
end Rows
end Go.Proofs.YtcbhbekhogcedaaDoor
