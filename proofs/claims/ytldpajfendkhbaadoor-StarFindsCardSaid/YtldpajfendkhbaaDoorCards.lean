/-
  DERIVED. GIVEN WITH THE SEED: THE CARDS: each row of YtldpajfendkhbaaDoorRows.lean that lists a variable, with what it lists TIED to the program's text (the seventh form; the later family's looks); each row that meets fmt, with fmt's text TOLD by the authors' own Lean function (tested against real Go, not proved from fmt's source: count such statements apart). THE CARD IS WHAT COUNTS. Prove the row's statement (the work); the ties are given (YtldpajfendkhbaaDoorTie.lean); close each card by the builder's one call (the guide's Derived/Test/ToyasCard.lean, 'card_holds'). Laid BY PROGRAM, IN A SANDBOX (cutbox-door.mjs). By AI agents, Wed Nov 11 2026. No macro, syntax, notation, axiom, sorry.
-/
import Derived.Test.YtldpajfendkhbaaDoorRows
import GoSem.ClaimSeven
namespace Go.Proofs.YtldpajfendkhbaaDoor
namespace Rows

/-- THE TIED CARD OF 'gloaminglaw10.StarFinds'. -/
def starFindsCard : Claim7 := { stood := { row := starFindsRow, standIns := [], harness := (true, "3b8407ff7513a0c99efe4340267d3d9239298448e4a8581bdfd22cbc33904db3"), looks := false }, kinds := [], alts := [], laidByText := true, laidKinds := [.data], laidTests := true, laidLooks := .later }
def StarFindsCardSaid : Prop := Claim7.holds Tryd.pinned (.plain (OpenSpec.ofChange starFindsSpec)) starFindsCard

/-- THE TIED CARD OF 'gloaminglaw10.StarLeast'. -/
def starLeastCard : Claim7 := { stood := { row := starLeastRow, standIns := [], harness := (true, "3b8407ff7513a0c99efe4340267d3d9239298448e4a8581bdfd22cbc33904db3"), looks := false }, kinds := [], alts := [], laidByText := true, laidKinds := [.data], laidTests := true, laidLooks := .later }
def StarLeastCardSaid : Prop := Claim7.holds Tryd.pinned (.plain (OpenSpec.ofChange starLeastSpec)) starLeastCard

/-- THE TIED CARD OF 'gloaminglaw10.StarBudget'. -/
def starBudgetCard : Claim7 := { stood := { row := starBudgetRow, standIns := [], harness := (true, "3b8407ff7513a0c99efe4340267d3d9239298448e4a8581bdfd22cbc33904db3"), looks := false }, kinds := [], alts := [], laidByText := true, laidKinds := [.data], laidTests := true, laidLooks := .later }
def StarBudgetCardSaid : Prop := Claim7.holds Tryd.pinned (.plain (OpenSpec.ofChange starBudgetSpec)) starBudgetCard

/-- THE TIED CARD OF 'gloaminglaw10.StarSettles'. -/
def starSettlesCard : Claim7 := { stood := { row := starSettlesRow, standIns := [], harness := (true, "3b8407ff7513a0c99efe4340267d3d9239298448e4a8581bdfd22cbc33904db3"), looks := false }, kinds := [], alts := [], laidByText := true, laidKinds := [.data], laidTests := true, laidLooks := .later }
def StarSettlesCardSaid : Prop := Claim7.holds Tryd.pinned (.plain (OpenSpec.ofChange starSettlesSpec)) starSettlesCard

/-- THE TIED CARD OF 'gloaminglaw10.StarOwn'. -/
def starOwnCard : Claim7 := { stood := { row := starOwnRow, standIns := [], harness := (true, "3b8407ff7513a0c99efe4340267d3d9239298448e4a8581bdfd22cbc33904db3"), looks := false }, kinds := [], alts := [], laidByText := true, laidKinds := [.data], laidTests := true, laidLooks := .later }
def StarOwnCardSaid : Prop := Claim7.holds Tryd.pinned (.plain (OpenSpec.ofChange starOwnSpec)) starOwnCard

/-- THE TIED CARD OF 'gloaminglaw10.StarMore'. -/
def starMoreCard : Claim7 := { stood := { row := starMoreRow, standIns := [], harness := (true, "3b8407ff7513a0c99efe4340267d3d9239298448e4a8581bdfd22cbc33904db3"), looks := false }, kinds := [], alts := [], laidByText := true, laidKinds := [.data], laidTests := true, laidLooks := .later }
def StarMoreCardSaid : Prop := Claim7.holds Tryd.pinned (.plain (OpenSpec.ofChange starMoreSpec)) starMoreCard

/-- THE SECOND FORM's CARD OF 'gloaminglaw10.StarFinds'. -/
def starFindsUptoCard : Claim7 := { stood := { row := starFindsUptoRow, standIns := [], harness := (true, "3b8407ff7513a0c99efe4340267d3d9239298448e4a8581bdfd22cbc33904db3"), looks := false }, kinds := [], alts := [], laidByText := true, laidKinds := [.data], laidTests := true, laidLooks := .later }
def StarFindsUptoCardSaid : Prop := Claim7.holds Tryd.pinned (.plain (OpenSpec.upto starFindsSpec)) starFindsUptoCard

/-- THE SECOND FORM's CARD OF 'gloaminglaw10.StarLeast'. -/
def starLeastUptoCard : Claim7 := { stood := { row := starLeastUptoRow, standIns := [], harness := (true, "3b8407ff7513a0c99efe4340267d3d9239298448e4a8581bdfd22cbc33904db3"), looks := false }, kinds := [], alts := [], laidByText := true, laidKinds := [.data], laidTests := true, laidLooks := .later }
def StarLeastUptoCardSaid : Prop := Claim7.holds Tryd.pinned (.plain (OpenSpec.upto starLeastSpec)) starLeastUptoCard

/-- THE SECOND FORM's CARD OF 'gloaminglaw10.StarBudget'. -/
def starBudgetUptoCard : Claim7 := { stood := { row := starBudgetUptoRow, standIns := [], harness := (true, "3b8407ff7513a0c99efe4340267d3d9239298448e4a8581bdfd22cbc33904db3"), looks := false }, kinds := [], alts := [], laidByText := true, laidKinds := [.data], laidTests := true, laidLooks := .later }
def StarBudgetUptoCardSaid : Prop := Claim7.holds Tryd.pinned (.plain (OpenSpec.upto starBudgetSpec)) starBudgetUptoCard

/-- THE SECOND FORM's CARD OF 'gloaminglaw10.StarSettles'. -/
def starSettlesUptoCard : Claim7 := { stood := { row := starSettlesUptoRow, standIns := [], harness := (true, "3b8407ff7513a0c99efe4340267d3d9239298448e4a8581bdfd22cbc33904db3"), looks := false }, kinds := [], alts := [], laidByText := true, laidKinds := [.data], laidTests := true, laidLooks := .later }
def StarSettlesUptoCardSaid : Prop := Claim7.holds Tryd.pinned (.plain (OpenSpec.upto starSettlesSpec)) starSettlesUptoCard

/-- THE SECOND FORM's CARD OF 'gloaminglaw10.StarOwn'. -/
def starOwnUptoCard : Claim7 := { stood := { row := starOwnUptoRow, standIns := [], harness := (true, "3b8407ff7513a0c99efe4340267d3d9239298448e4a8581bdfd22cbc33904db3"), looks := false }, kinds := [], alts := [], laidByText := true, laidKinds := [.data], laidTests := true, laidLooks := .later }
def StarOwnUptoCardSaid : Prop := Claim7.holds Tryd.pinned (.plain (OpenSpec.upto starOwnSpec)) starOwnUptoCard

/-- THE SECOND FORM's CARD OF 'gloaminglaw10.StarMore'. -/
def starMoreUptoCard : Claim7 := { stood := { row := starMoreUptoRow, standIns := [], harness := (true, "3b8407ff7513a0c99efe4340267d3d9239298448e4a8581bdfd22cbc33904db3"), looks := false }, kinds := [], alts := [], laidByText := true, laidKinds := [.data], laidTests := true, laidLooks := .later }
def StarMoreUptoCardSaid : Prop := Claim7.holds Tryd.pinned (.plain (OpenSpec.upto starMoreSpec)) starMoreUptoCard
end Rows
end Go.Proofs.YtldpajfendkhbaaDoor
