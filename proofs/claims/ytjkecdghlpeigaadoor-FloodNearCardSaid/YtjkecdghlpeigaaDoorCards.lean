/-
  DERIVED. GIVEN WITH THE SEED: THE CARDS: each row of YtjkecdghlpeigaaDoorRows.lean that lists a variable, with what it lists TIED to the program's text (the seventh form; the later family's looks); each row that meets fmt, with fmt's text TOLD by the authors' own Lean function (tested against real Go, not proved from fmt's source: count such statements apart). THE CARD IS WHAT COUNTS. Prove the row's statement (the work); the ties are given (YtjkecdghlpeigaaDoorTie.lean); close each card by the builder's one call (the guide's Derived/Test/ToyasCard.lean, 'card_holds'). Laid BY PROGRAM, IN A SANDBOX (cutbox-door.mjs). By AI agents, Wed Nov 11 2026. No macro, syntax, notation, axiom, sorry.
-/
import Derived.Test.YtjkecdghlpeigaaDoorRows
import GoSem.ClaimSeven
namespace Go.Proofs.YtjkecdghlpeigaaDoor
namespace Rows

/-- THE TIED CARD OF 'gloaminglaw08.FloodFar'. -/
def floodFarCard : Claim7 := { stood := { row := floodFarRow, standIns := [], harness := (true, "9a553b942887ad74c5fa33fd368e9638aac8bcae9f992a4f51b30665bc95ccdc"), looks := false }, kinds := [], alts := [], laidByText := true, laidKinds := [.data], laidTests := true, laidLooks := .later }
def FloodFarCardSaid : Prop := Claim7.holds Tryd.pinned (.plain (OpenSpec.ofChange floodFarSpec)) floodFarCard

/-- THE TIED CARD OF 'gloaminglaw08.FloodPaths'. -/
def floodPathsCard : Claim7 := { stood := { row := floodPathsRow, standIns := [], harness := (true, "9a553b942887ad74c5fa33fd368e9638aac8bcae9f992a4f51b30665bc95ccdc"), looks := false }, kinds := [], alts := [], laidByText := true, laidKinds := [.data], laidTests := true, laidLooks := .later }
def FloodPathsCardSaid : Prop := Claim7.holds Tryd.pinned (.plain (OpenSpec.ofChange floodPathsSpec)) floodPathsCard

/-- THE TIED CARD OF 'gloaminglaw08.FloodNear'. -/
def floodNearCard : Claim7 := { stood := { row := floodNearRow, standIns := [], harness := (true, "9a553b942887ad74c5fa33fd368e9638aac8bcae9f992a4f51b30665bc95ccdc"), looks := false }, kinds := [], alts := [], laidByText := true, laidKinds := [.data], laidTests := true, laidLooks := .later }
def FloodNearCardSaid : Prop := Claim7.holds Tryd.pinned (.plain (OpenSpec.ofChange floodNearSpec)) floodNearCard

/-- THE TIED CARD OF 'gloaminglaw08.FloodBacks'. -/
def floodBacksCard : Claim7 := { stood := { row := floodBacksRow, standIns := [], harness := (true, "9a553b942887ad74c5fa33fd368e9638aac8bcae9f992a4f51b30665bc95ccdc"), looks := false }, kinds := [], alts := [], laidByText := true, laidKinds := [.data], laidTests := true, laidLooks := .later }
def FloodBacksCardSaid : Prop := Claim7.holds Tryd.pinned (.plain (OpenSpec.ofChange floodBacksSpec)) floodBacksCard

/-- THE TIED CARD OF 'gloaminglaw08.FloodWays'. -/
def floodWaysCard : Claim7 := { stood := { row := floodWaysRow, standIns := [], harness := (true, "9a553b942887ad74c5fa33fd368e9638aac8bcae9f992a4f51b30665bc95ccdc"), looks := false }, kinds := [], alts := [], laidByText := true, laidKinds := [.data], laidTests := true, laidLooks := .later }
def FloodWaysCardSaid : Prop := Claim7.holds Tryd.pinned (.plain (OpenSpec.ofChange floodWaysSpec)) floodWaysCard

/-- THE TIED CARD OF 'gloaminglaw08.FloodThree'. -/
def floodThreeCard : Claim7 := { stood := { row := floodThreeRow, standIns := [], harness := (true, "9a553b942887ad74c5fa33fd368e9638aac8bcae9f992a4f51b30665bc95ccdc"), looks := false }, kinds := [], alts := [], laidByText := true, laidKinds := [.data], laidTests := true, laidLooks := .later }
def FloodThreeCardSaid : Prop := Claim7.holds Tryd.pinned (.plain (OpenSpec.ofChange floodThreeSpec)) floodThreeCard

/-- THE TIED CARD OF 'gloaminglaw10.StarFinds'. -/
def starFindsCard : Claim7 := { stood := { row := starFindsRow, standIns := [], harness := (true, "9a553b942887ad74c5fa33fd368e9638aac8bcae9f992a4f51b30665bc95ccdc"), looks := false }, kinds := [], alts := [], laidByText := true, laidKinds := [.data], laidTests := true, laidLooks := .later }
def StarFindsCardSaid : Prop := Claim7.holds Tryd.pinned (.plain (OpenSpec.ofChange starFindsSpec)) starFindsCard

/-- THE TIED CARD OF 'gloaminglaw10.StarLeast'. -/
def starLeastCard : Claim7 := { stood := { row := starLeastRow, standIns := [], harness := (true, "9a553b942887ad74c5fa33fd368e9638aac8bcae9f992a4f51b30665bc95ccdc"), looks := false }, kinds := [], alts := [], laidByText := true, laidKinds := [.data], laidTests := true, laidLooks := .later }
def StarLeastCardSaid : Prop := Claim7.holds Tryd.pinned (.plain (OpenSpec.ofChange starLeastSpec)) starLeastCard

/-- THE TIED CARD OF 'gloaminglaw10.StarBudget'. -/
def starBudgetCard : Claim7 := { stood := { row := starBudgetRow, standIns := [], harness := (true, "9a553b942887ad74c5fa33fd368e9638aac8bcae9f992a4f51b30665bc95ccdc"), looks := false }, kinds := [], alts := [], laidByText := true, laidKinds := [.data], laidTests := true, laidLooks := .later }
def StarBudgetCardSaid : Prop := Claim7.holds Tryd.pinned (.plain (OpenSpec.ofChange starBudgetSpec)) starBudgetCard

/-- THE TIED CARD OF 'gloaminglaw10.StarSettles'. -/
def starSettlesCard : Claim7 := { stood := { row := starSettlesRow, standIns := [], harness := (true, "9a553b942887ad74c5fa33fd368e9638aac8bcae9f992a4f51b30665bc95ccdc"), looks := false }, kinds := [], alts := [], laidByText := true, laidKinds := [.data], laidTests := true, laidLooks := .later }
def StarSettlesCardSaid : Prop := Claim7.holds Tryd.pinned (.plain (OpenSpec.ofChange starSettlesSpec)) starSettlesCard

/-- THE TIED CARD OF 'gloaminglaw10.StarOwn'. -/
def starOwnCard : Claim7 := { stood := { row := starOwnRow, standIns := [], harness := (true, "9a553b942887ad74c5fa33fd368e9638aac8bcae9f992a4f51b30665bc95ccdc"), looks := false }, kinds := [], alts := [], laidByText := true, laidKinds := [.data], laidTests := true, laidLooks := .later }
def StarOwnCardSaid : Prop := Claim7.holds Tryd.pinned (.plain (OpenSpec.ofChange starOwnSpec)) starOwnCard

/-- THE SECOND FORM's CARD OF 'gloaminglaw08.FloodFar'. -/
def floodFarUptoCard : Claim7 := { stood := { row := floodFarUptoRow, standIns := [], harness := (true, "9a553b942887ad74c5fa33fd368e9638aac8bcae9f992a4f51b30665bc95ccdc"), looks := false }, kinds := [], alts := [], laidByText := true, laidKinds := [.data], laidTests := true, laidLooks := .later }
def FloodFarUptoCardSaid : Prop := Claim7.holds Tryd.pinned (.plain (OpenSpec.upto floodFarSpec)) floodFarUptoCard

/-- THE SECOND FORM's CARD OF 'gloaminglaw08.FloodPaths'. -/
def floodPathsUptoCard : Claim7 := { stood := { row := floodPathsUptoRow, standIns := [], harness := (true, "9a553b942887ad74c5fa33fd368e9638aac8bcae9f992a4f51b30665bc95ccdc"), looks := false }, kinds := [], alts := [], laidByText := true, laidKinds := [.data], laidTests := true, laidLooks := .later }
def FloodPathsUptoCardSaid : Prop := Claim7.holds Tryd.pinned (.plain (OpenSpec.upto floodPathsSpec)) floodPathsUptoCard

/-- THE SECOND FORM's CARD OF 'gloaminglaw08.FloodNear'. -/
def floodNearUptoCard : Claim7 := { stood := { row := floodNearUptoRow, standIns := [], harness := (true, "9a553b942887ad74c5fa33fd368e9638aac8bcae9f992a4f51b30665bc95ccdc"), looks := false }, kinds := [], alts := [], laidByText := true, laidKinds := [.data], laidTests := true, laidLooks := .later }
def FloodNearUptoCardSaid : Prop := Claim7.holds Tryd.pinned (.plain (OpenSpec.upto floodNearSpec)) floodNearUptoCard

/-- THE SECOND FORM's CARD OF 'gloaminglaw08.FloodBacks'. -/
def floodBacksUptoCard : Claim7 := { stood := { row := floodBacksUptoRow, standIns := [], harness := (true, "9a553b942887ad74c5fa33fd368e9638aac8bcae9f992a4f51b30665bc95ccdc"), looks := false }, kinds := [], alts := [], laidByText := true, laidKinds := [.data], laidTests := true, laidLooks := .later }
def FloodBacksUptoCardSaid : Prop := Claim7.holds Tryd.pinned (.plain (OpenSpec.upto floodBacksSpec)) floodBacksUptoCard

/-- THE SECOND FORM's CARD OF 'gloaminglaw08.FloodWays'. -/
def floodWaysUptoCard : Claim7 := { stood := { row := floodWaysUptoRow, standIns := [], harness := (true, "9a553b942887ad74c5fa33fd368e9638aac8bcae9f992a4f51b30665bc95ccdc"), looks := false }, kinds := [], alts := [], laidByText := true, laidKinds := [.data], laidTests := true, laidLooks := .later }
def FloodWaysUptoCardSaid : Prop := Claim7.holds Tryd.pinned (.plain (OpenSpec.upto floodWaysSpec)) floodWaysUptoCard

/-- THE SECOND FORM's CARD OF 'gloaminglaw08.FloodThree'. -/
def floodThreeUptoCard : Claim7 := { stood := { row := floodThreeUptoRow, standIns := [], harness := (true, "9a553b942887ad74c5fa33fd368e9638aac8bcae9f992a4f51b30665bc95ccdc"), looks := false }, kinds := [], alts := [], laidByText := true, laidKinds := [.data], laidTests := true, laidLooks := .later }
def FloodThreeUptoCardSaid : Prop := Claim7.holds Tryd.pinned (.plain (OpenSpec.upto floodThreeSpec)) floodThreeUptoCard

/-- THE SECOND FORM's CARD OF 'gloaminglaw10.StarFinds'. -/
def starFindsUptoCard : Claim7 := { stood := { row := starFindsUptoRow, standIns := [], harness := (true, "9a553b942887ad74c5fa33fd368e9638aac8bcae9f992a4f51b30665bc95ccdc"), looks := false }, kinds := [], alts := [], laidByText := true, laidKinds := [.data], laidTests := true, laidLooks := .later }
def StarFindsUptoCardSaid : Prop := Claim7.holds Tryd.pinned (.plain (OpenSpec.upto starFindsSpec)) starFindsUptoCard

/-- THE SECOND FORM's CARD OF 'gloaminglaw10.StarLeast'. -/
def starLeastUptoCard : Claim7 := { stood := { row := starLeastUptoRow, standIns := [], harness := (true, "9a553b942887ad74c5fa33fd368e9638aac8bcae9f992a4f51b30665bc95ccdc"), looks := false }, kinds := [], alts := [], laidByText := true, laidKinds := [.data], laidTests := true, laidLooks := .later }
def StarLeastUptoCardSaid : Prop := Claim7.holds Tryd.pinned (.plain (OpenSpec.upto starLeastSpec)) starLeastUptoCard

/-- THE SECOND FORM's CARD OF 'gloaminglaw10.StarBudget'. -/
def starBudgetUptoCard : Claim7 := { stood := { row := starBudgetUptoRow, standIns := [], harness := (true, "9a553b942887ad74c5fa33fd368e9638aac8bcae9f992a4f51b30665bc95ccdc"), looks := false }, kinds := [], alts := [], laidByText := true, laidKinds := [.data], laidTests := true, laidLooks := .later }
def StarBudgetUptoCardSaid : Prop := Claim7.holds Tryd.pinned (.plain (OpenSpec.upto starBudgetSpec)) starBudgetUptoCard

/-- THE SECOND FORM's CARD OF 'gloaminglaw10.StarSettles'. -/
def starSettlesUptoCard : Claim7 := { stood := { row := starSettlesUptoRow, standIns := [], harness := (true, "9a553b942887ad74c5fa33fd368e9638aac8bcae9f992a4f51b30665bc95ccdc"), looks := false }, kinds := [], alts := [], laidByText := true, laidKinds := [.data], laidTests := true, laidLooks := .later }
def StarSettlesUptoCardSaid : Prop := Claim7.holds Tryd.pinned (.plain (OpenSpec.upto starSettlesSpec)) starSettlesUptoCard

/-- THE SECOND FORM's CARD OF 'gloaminglaw10.StarOwn'. -/
def starOwnUptoCard : Claim7 := { stood := { row := starOwnUptoRow, standIns := [], harness := (true, "9a553b942887ad74c5fa33fd368e9638aac8bcae9f992a4f51b30665bc95ccdc"), looks := false }, kinds := [], alts := [], laidByText := true, laidKinds := [.data], laidTests := true, laidLooks := .later }
def StarOwnUptoCardSaid : Prop := Claim7.holds Tryd.pinned (.plain (OpenSpec.upto starOwnSpec)) starOwnUptoCard
end Rows
end Go.Proofs.YtjkecdghlpeigaaDoor
