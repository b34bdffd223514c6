/-
  DERIVED. GIVEN WITH THE SEED: THE CARDS: each row of YtgbhafadibdmcaaDoorRows.lean that lists a variable, with what it lists TIED to the program's text (the seventh form; the later family's looks); each row that meets fmt, with fmt's text TOLD by the authors' own Lean function (tested against real Go, not proved from fmt's source: count such statements apart). THE CARD IS WHAT COUNTS. Prove the row's statement (the work); the ties are given (YtgbhafadibdmcaaDoorTie.lean); close each card by the builder's one call (the guide's Derived/Test/ToyasCard.lean, 'card_holds'). Laid BY PROGRAM, IN A SANDBOX (cutbox-door.mjs). By AI agents, Wed Nov 11 2026. No macro, syntax, notation, axiom, sorry.
-/
import Derived.Test.YtgbhafadibdmcaaDoorRows
import GoSem.ClaimSeven
namespace Go.Proofs.YtgbhafadibdmcaaDoor
namespace Rows

/-- THE TIED CARD OF 'gloaminglaw08.FloodPaths'. -/
def floodPathsCard : Claim7 := { stood := { row := floodPathsRow, standIns := [], harness := (true, "87a5884796dc803ca1df6f98a773efff2ee1501e21f5ffad42e18f36494590e0"), looks := false }, kinds := [], alts := [], laidByText := true, laidKinds := [.data], laidTests := true, laidLooks := .later }
def FloodPathsCardSaid : Prop := Claim7.holds Tryd.pinned (.plain (OpenSpec.ofChange floodPathsSpec)) floodPathsCard

/-- THE TIED CARD OF 'gloaminglaw13.InnerOf'. -/
def innerOfCard : Claim7 := { stood := { row := innerOfRow, standIns := [], harness := (true, "87a5884796dc803ca1df6f98a773efff2ee1501e21f5ffad42e18f36494590e0"), looks := false }, kinds := [], alts := [], laidByText := true, laidKinds := [.data], laidTests := true, laidLooks := .later }
def InnerOfCardSaid : Prop := Claim7.holds Tryd.pinned (.plain (OpenSpec.ofChange innerOfSpec)) innerOfCard

/-- THE TIED CARD OF 'gloaminglaw13.InnerVia'. -/
def innerViaCard : Claim7 := { stood := { row := innerViaRow, standIns := [], harness := (true, "87a5884796dc803ca1df6f98a773efff2ee1501e21f5ffad42e18f36494590e0"), looks := false }, kinds := [], alts := [], laidByText := true, laidKinds := [.data], laidTests := true, laidLooks := .later }
def InnerViaCardSaid : Prop := Claim7.holds Tryd.pinned (.plain (OpenSpec.ofChange innerViaSpec)) innerViaCard

/-- THE TIED CARD OF 'gloaminglaw13.InnerOwn'. -/
def innerOwnCard : Claim7 := { stood := { row := innerOwnRow, standIns := [], harness := (true, "87a5884796dc803ca1df6f98a773efff2ee1501e21f5ffad42e18f36494590e0"), looks := false }, kinds := [], alts := [], laidByText := true, laidKinds := [.data], laidTests := true, laidLooks := .later }
def InnerOwnCardSaid : Prop := Claim7.holds Tryd.pinned (.plain (OpenSpec.ofChange innerOwnSpec)) innerOwnCard

/-- THE SECOND FORM's CARD OF 'gloaminglaw08.FloodPaths'. -/
def floodPathsUptoCard : Claim7 := { stood := { row := floodPathsUptoRow, standIns := [], harness := (true, "87a5884796dc803ca1df6f98a773efff2ee1501e21f5ffad42e18f36494590e0"), looks := false }, kinds := [], alts := [], laidByText := true, laidKinds := [.data], laidTests := true, laidLooks := .later }
def FloodPathsUptoCardSaid : Prop := Claim7.holds Tryd.pinned (.plain (OpenSpec.upto floodPathsSpec)) floodPathsUptoCard

/-- THE SECOND FORM's CARD OF 'gloaminglaw13.InnerOf'. -/
def innerOfUptoCard : Claim7 := { stood := { row := innerOfUptoRow, standIns := [], harness := (true, "87a5884796dc803ca1df6f98a773efff2ee1501e21f5ffad42e18f36494590e0"), looks := false }, kinds := [], alts := [], laidByText := true, laidKinds := [.data], laidTests := true, laidLooks := .later }
def InnerOfUptoCardSaid : Prop := Claim7.holds Tryd.pinned (.plain (OpenSpec.upto innerOfSpec)) innerOfUptoCard

/-- THE SECOND FORM's CARD OF 'gloaminglaw13.InnerVia'. -/
def innerViaUptoCard : Claim7 := { stood := { row := innerViaUptoRow, standIns := [], harness := (true, "87a5884796dc803ca1df6f98a773efff2ee1501e21f5ffad42e18f36494590e0"), looks := false }, kinds := [], alts := [], laidByText := true, laidKinds := [.data], laidTests := true, laidLooks := .later }
def InnerViaUptoCardSaid : Prop := Claim7.holds Tryd.pinned (.plain (OpenSpec.upto innerViaSpec)) innerViaUptoCard

/-- THE SECOND FORM's CARD OF 'gloaminglaw13.InnerOwn'. -/
def innerOwnUptoCard : Claim7 := { stood := { row := innerOwnUptoRow, standIns := [], harness := (true, "87a5884796dc803ca1df6f98a773efff2ee1501e21f5ffad42e18f36494590e0"), looks := false }, kinds := [], alts := [], laidByText := true, laidKinds := [.data], laidTests := true, laidLooks := .later }
def InnerOwnUptoCardSaid : Prop := Claim7.holds Tryd.pinned (.plain (OpenSpec.upto innerOwnSpec)) innerOwnUptoCard
end Rows
end Go.Proofs.YtgbhafadibdmcaaDoor
