/-
  DERIVED. GIVEN WITH THE SEED: THE CARDS: each row of YtdacoeehhpnkbaaDoorRows.lean that lists a variable, with what it lists TIED to the program's text (the seventh form; the later family's looks); each row that meets fmt, with fmt's text TOLD by the authors' own Lean function (tested against real Go, not proved from fmt's source: count such statements apart). THE CARD IS WHAT COUNTS. Prove the row's statement (the work); the ties are given (YtdacoeehhpnkbaaDoorTie.lean); close each card by the builder's one call (the guide's Derived/Test/ToyasCard.lean, 'card_holds'). Laid BY PROGRAM, IN A SANDBOX (cutbox-door.mjs). By AI agents, Wed Nov 11 2026. No macro, syntax, notation, axiom, sorry.
-/
import Derived.Test.YtdacoeehhpnkbaaDoorRows
import GoSem.ClaimSeven
namespace Go.Proofs.YtdacoeehhpnkbaaDoor
namespace Rows

/-- THE TIED CARD OF 'gloaminglaw01.GeomIndex'. -/
def geomIndexCard : Claim7 := { stood := { row := geomIndexRow, standIns := [], harness := (true, "750678ff0f831547165a3f02c698dfce44d846927d2497aa5e6be56b95988971"), looks := false }, kinds := [], alts := [], laidByText := true, laidKinds := [.data], laidTests := true, laidLooks := .later }
def GeomIndexCardSaid : Prop := Claim7.holds Tryd.pinned (.plain (OpenSpec.ofChange geomIndexSpec)) geomIndexCard

/-- THE TIED CARD OF 'gloaminglaw01.GeomSteps'. -/
def geomStepsCard : Claim7 := { stood := { row := geomStepsRow, standIns := [], harness := (true, "750678ff0f831547165a3f02c698dfce44d846927d2497aa5e6be56b95988971"), looks := false }, kinds := [], alts := [], laidByText := true, laidKinds := [.data], laidTests := true, laidLooks := .later }
def GeomStepsCardSaid : Prop := Claim7.holds Tryd.pinned (.plain (OpenSpec.ofChange geomStepsSpec)) geomStepsCard

/-- THE TIED CARD OF 'gloaminglaw01.GeomFar'. -/
def geomFarCard : Claim7 := { stood := { row := geomFarRow, standIns := [], harness := (true, "750678ff0f831547165a3f02c698dfce44d846927d2497aa5e6be56b95988971"), looks := false }, kinds := [], alts := [], laidByText := true, laidKinds := [.data], laidTests := true, laidLooks := .later }
def GeomFarCardSaid : Prop := Claim7.holds Tryd.pinned (.plain (OpenSpec.ofChange geomFarSpec)) geomFarCard

/-- THE TIED CARD OF 'gloaminglaw01.GeomBox'. -/
def geomBoxCard : Claim7 := { stood := { row := geomBoxRow, standIns := [], harness := (true, "750678ff0f831547165a3f02c698dfce44d846927d2497aa5e6be56b95988971"), looks := false }, kinds := [], alts := [], laidByText := true, laidKinds := [.data], laidTests := true, laidLooks := .later }
def GeomBoxCardSaid : Prop := Claim7.holds Tryd.pinned (.plain (OpenSpec.ofChange geomBoxSpec)) geomBoxCard

/-- THE TIED CARD OF 'gloaminglaw01.GeomOnce'. -/
def geomOnceCard : Claim7 := { stood := { row := geomOnceRow, standIns := [], harness := (true, "750678ff0f831547165a3f02c698dfce44d846927d2497aa5e6be56b95988971"), looks := false }, kinds := [], alts := [], laidByText := true, laidKinds := [.data], laidTests := true, laidLooks := .later }
def GeomOnceCardSaid : Prop := Claim7.holds Tryd.pinned (.plain (OpenSpec.ofChange geomOnceSpec)) geomOnceCard

/-- THE TIED CARD OF 'gloaminglaw01.GeomBack'. -/
def geomBackCard : Claim7 := { stood := { row := geomBackRow, standIns := [], harness := (true, "750678ff0f831547165a3f02c698dfce44d846927d2497aa5e6be56b95988971"), looks := false }, kinds := [], alts := [], laidByText := true, laidKinds := [.data], laidTests := true, laidLooks := .later }
def GeomBackCardSaid : Prop := Claim7.holds Tryd.pinned (.plain (OpenSpec.ofChange geomBackSpec)) geomBackCard

/-- THE TIED CARD OF 'gloaminglaw01.GeomWalk'. -/
def geomWalkCard : Claim7 := { stood := { row := geomWalkRow, standIns := [], harness := (true, "750678ff0f831547165a3f02c698dfce44d846927d2497aa5e6be56b95988971"), looks := false }, kinds := [], alts := [], laidByText := true, laidKinds := [.data], laidTests := true, laidLooks := .later }
def GeomWalkCardSaid : Prop := Claim7.holds Tryd.pinned (.plain (OpenSpec.ofChange geomWalkSpec)) geomWalkCard

/-- THE TIED CARD OF 'gloaminglaw01.GeomFits'. -/
def geomFitsCard : Claim7 := { stood := { row := geomFitsRow, standIns := [], harness := (true, "750678ff0f831547165a3f02c698dfce44d846927d2497aa5e6be56b95988971"), looks := false }, kinds := [], alts := [], laidByText := true, laidKinds := [.data], laidTests := true, laidLooks := .later }
def GeomFitsCardSaid : Prop := Claim7.holds Tryd.pinned (.plain (OpenSpec.ofChange geomFitsSpec)) geomFitsCard

/-- THE SECOND FORM's CARD OF 'gloaminglaw01.GeomIndex'. -/
def geomIndexUptoCard : Claim7 := { stood := { row := geomIndexUptoRow, standIns := [], harness := (true, "750678ff0f831547165a3f02c698dfce44d846927d2497aa5e6be56b95988971"), looks := false }, kinds := [], alts := [], laidByText := true, laidKinds := [.data], laidTests := true, laidLooks := .later }
def GeomIndexUptoCardSaid : Prop := Claim7.holds Tryd.pinned (.plain (OpenSpec.upto geomIndexSpec)) geomIndexUptoCard

/-- THE SECOND FORM's CARD OF 'gloaminglaw01.GeomSteps'. -/
def geomStepsUptoCard : Claim7 := { stood := { row := geomStepsUptoRow, standIns := [], harness := (true, "750678ff0f831547165a3f02c698dfce44d846927d2497aa5e6be56b95988971"), looks := false }, kinds := [], alts := [], laidByText := true, laidKinds := [.data], laidTests := true, laidLooks := .later }
def GeomStepsUptoCardSaid : Prop := Claim7.holds Tryd.pinned (.plain (OpenSpec.upto geomStepsSpec)) geomStepsUptoCard

/-- THE SECOND FORM's CARD OF 'gloaminglaw01.GeomFar'. -/
def geomFarUptoCard : Claim7 := { stood := { row := geomFarUptoRow, standIns := [], harness := (true, "750678ff0f831547165a3f02c698dfce44d846927d2497aa5e6be56b95988971"), looks := false }, kinds := [], alts := [], laidByText := true, laidKinds := [.data], laidTests := true, laidLooks := .later }
def GeomFarUptoCardSaid : Prop := Claim7.holds Tryd.pinned (.plain (OpenSpec.upto geomFarSpec)) geomFarUptoCard

/-- THE SECOND FORM's CARD OF 'gloaminglaw01.GeomBox'. -/
def geomBoxUptoCard : Claim7 := { stood := { row := geomBoxUptoRow, standIns := [], harness := (true, "750678ff0f831547165a3f02c698dfce44d846927d2497aa5e6be56b95988971"), looks := false }, kinds := [], alts := [], laidByText := true, laidKinds := [.data], laidTests := true, laidLooks := .later }
def GeomBoxUptoCardSaid : Prop := Claim7.holds Tryd.pinned (.plain (OpenSpec.upto geomBoxSpec)) geomBoxUptoCard

/-- THE SECOND FORM's CARD OF 'gloaminglaw01.GeomOnce'. -/
def geomOnceUptoCard : Claim7 := { stood := { row := geomOnceUptoRow, standIns := [], harness := (true, "750678ff0f831547165a3f02c698dfce44d846927d2497aa5e6be56b95988971"), looks := false }, kinds := [], alts := [], laidByText := true, laidKinds := [.data], laidTests := true, laidLooks := .later }
def GeomOnceUptoCardSaid : Prop := Claim7.holds Tryd.pinned (.plain (OpenSpec.upto geomOnceSpec)) geomOnceUptoCard

/-- THE SECOND FORM's CARD OF 'gloaminglaw01.GeomBack'. -/
def geomBackUptoCard : Claim7 := { stood := { row := geomBackUptoRow, standIns := [], harness := (true, "750678ff0f831547165a3f02c698dfce44d846927d2497aa5e6be56b95988971"), looks := false }, kinds := [], alts := [], laidByText := true, laidKinds := [.data], laidTests := true, laidLooks := .later }
def GeomBackUptoCardSaid : Prop := Claim7.holds Tryd.pinned (.plain (OpenSpec.upto geomBackSpec)) geomBackUptoCard

/-- THE SECOND FORM's CARD OF 'gloaminglaw01.GeomWalk'. -/
def geomWalkUptoCard : Claim7 := { stood := { row := geomWalkUptoRow, standIns := [], harness := (true, "750678ff0f831547165a3f02c698dfce44d846927d2497aa5e6be56b95988971"), looks := false }, kinds := [], alts := [], laidByText := true, laidKinds := [.data], laidTests := true, laidLooks := .later }
def GeomWalkUptoCardSaid : Prop := Claim7.holds Tryd.pinned (.plain (OpenSpec.upto geomWalkSpec)) geomWalkUptoCard

/-- THE SECOND FORM's CARD OF 'gloaminglaw01.GeomFits'. -/
def geomFitsUptoCard : Claim7 := { stood := { row := geomFitsUptoRow, standIns := [], harness := (true, "750678ff0f831547165a3f02c698dfce44d846927d2497aa5e6be56b95988971"), looks := false }, kinds := [], alts := [], laidByText := true, laidKinds := [.data], laidTests := true, laidLooks := .later }
def GeomFitsUptoCardSaid : Prop := Claim7.holds Tryd.pinned (.plain (OpenSpec.upto geomFitsSpec)) geomFitsUptoCard
end Rows
end Go.Proofs.YtdacoeehhpnkbaaDoor
