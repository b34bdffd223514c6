/-
  NARROWER THAN 'FOR EVERY INPUT', by the rows' own cells (each row's printed sentence says how): PartNew: laid · PartBoxes: laid · PartBorders: laid · PartWhole: laid · PartSides: laid.
  DERIVED. THE GIVEN ROWS OF THIS SEAT. 5 by the template 'for every input the law returns true; each argument reads behind the call as it read before'; 0 by the template 'total and deterministic' (their statements: YtdajddcladapaaaDoorTotals.lean).
  GIVEN WITH THE SEED: the statements are not yours to turn. If you find one false, say at which input.
  Laid BY PROGRAM, IN A SANDBOX (cutbox-rows.mjs): the forced cells as the released guide's own fill.sh prints them over the translation 8af0dfe04953e594… (all of the seat's roots in one cut). By AI agents, Wed Nov 11 2026. No macro, syntax, notation, axiom, sorry.
-/
import Derived.Test.YtdajddcladapaaaDoorChecked
import GoSem.Claim
import GoSem.ClaimJoined
import GoSem.ClaimMapViews
import Derived.JoinedTies
import Derived.KernelRfl
namespace Go.Proofs.YtdajddcladapaaaDoor
/- THE CELL 'sum', in the pinned program and in every row, IS THE sha256 OF THE DUMP (.gsa) THAT YtdajddcladapaaaDoorProg.lean LOADS. Nothing in Lean hashes anything: it is a label: what it is worth is what the hold of that sum in a sandbox is worth. -/
noncomputable def Tryd.pinned : Pinned := { name := "ytdajddcladapaaadoor", sum := "8af0dfe04953e5946047dc472addcda0187e5eea3c230277315e388b61ea197f", checked := Tryd.checked }
namespace Rows
def none {H : Type} : Left H := { results := [], args := [] }

/- WHAT THE LISTED PACKAGE-LEVEL VARIABLES READ AS WHEN THE CALL BEGINS. Each datum BY PROGRAM (the guide's laid-datum.mjs) off the statement by which the dump's own 'gosem.cut.vars' lays the variable. In a bare row this is a premise. The card (YtdajddcladapaaaDoorCards.lean) ties it to the program's text. -/
def laid_gloaming_geom_steps {H : Type} : DataW H := .agg [.agg [.lit (.int .i64 0), .lit (.int .i64 (-1))], .agg [.lit (.int .i64 1), .lit (.int .i64 0)], .agg [.lit (.int .i64 0), .lit (.int .i64 1)], .agg [.lit (.int .i64 (-1)), .lit (.int .i64 0)]]

/-- 'gloaminglaw11.PartNew': WHATEVER THE INPUT: true; the input reads as it did. -/
def partNewSpec : ChangeSpec := { name := "partNew", fn := fun _ => fun
  | [d1, d2, d3] => { results := [.lit (.bool true)], args := [d1, d2, d3] }
  | _ => none }
def partNewRow : OpenClaim := { program := "ytdajddcladapaaadoor", sum := "8af0dfe04953e5946047dc472addcda0187e5eea3c230277315e388b61ea197f", func := "gloaming/gloaminglaw11.PartNew", spec := "partNew", unfollowed := true, recurses := true, named := ["gloaming/geom.steps"], apart := false, laid := [("gloaming/geom.steps", laid_gloaming_geom_steps)] }
def PartNewSaid : Prop := partNewRow.holds Tryd.pinned (OpenSpec.ofChange partNewSpec)

/-- ITS FALSE NEIGHBOUR: 'it returns false'. Refute it at one input. -/
def partNewWrong : ChangeSpec := { name := "partNew", fn := fun _ => fun
  | [d1, d2, d3] => { results := [.lit (.bool false)], args := [d1, d2, d3] }
  | _ => none }
def PartNewWrongFalsely : Prop := partNewRow.holds Tryd.pinned (OpenSpec.ofChange partNewWrong)

/-- 'gloaminglaw11.PartBoxes': WHATEVER THE INPUT: true; the input reads as it did. -/
def partBoxesSpec : ChangeSpec := { name := "partBoxes", fn := fun _ => fun
  | [d1, d2, d3] => { results := [.lit (.bool true)], args := [d1, d2, d3] }
  | _ => none }
def partBoxesRow : OpenClaim := { program := "ytdajddcladapaaadoor", sum := "8af0dfe04953e5946047dc472addcda0187e5eea3c230277315e388b61ea197f", func := "gloaming/gloaminglaw11.PartBoxes", spec := "partBoxes", unfollowed := true, recurses := true, named := ["gloaming/geom.steps"], apart := false, laid := [("gloaming/geom.steps", laid_gloaming_geom_steps)] }
def PartBoxesSaid : Prop := partBoxesRow.holds Tryd.pinned (OpenSpec.ofChange partBoxesSpec)

/-- ITS FALSE NEIGHBOUR: 'it returns false'. Refute it at one input. -/
def partBoxesWrong : ChangeSpec := { name := "partBoxes", fn := fun _ => fun
  | [d1, d2, d3] => { results := [.lit (.bool false)], args := [d1, d2, d3] }
  | _ => none }
def PartBoxesWrongFalsely : Prop := partBoxesRow.holds Tryd.pinned (OpenSpec.ofChange partBoxesWrong)

/-- 'gloaminglaw11.PartBorders': WHATEVER THE INPUT: true; the input reads as it did. -/
def partBordersSpec : ChangeSpec := { name := "partBorders", fn := fun _ => fun
  | [d1, d2, d3] => { results := [.lit (.bool true)], args := [d1, d2, d3] }
  | _ => none }
def partBordersRow : OpenClaim := { program := "ytdajddcladapaaadoor", sum := "8af0dfe04953e5946047dc472addcda0187e5eea3c230277315e388b61ea197f", func := "gloaming/gloaminglaw11.PartBorders", spec := "partBorders", unfollowed := true, recurses := true, named := ["gloaming/geom.steps"], apart := false, laid := [("gloaming/geom.steps", laid_gloaming_geom_steps)] }
def PartBordersSaid : Prop := partBordersRow.holds Tryd.pinned (OpenSpec.ofChange partBordersSpec)

/-- ITS FALSE NEIGHBOUR: 'it returns false'. Refute it at one input. -/
def partBordersWrong : ChangeSpec := { name := "partBorders", fn := fun _ => fun
  | [d1, d2, d3] => { results := [.lit (.bool false)], args := [d1, d2, d3] }
  | _ => none }
def PartBordersWrongFalsely : Prop := partBordersRow.holds Tryd.pinned (OpenSpec.ofChange partBordersWrong)

/-- 'gloaminglaw11.PartWhole': WHATEVER THE INPUT: true; the input reads as it did. -/
def partWholeSpec : ChangeSpec := { name := "partWhole", fn := fun _ => fun
  | [d] => { results := [.lit (.bool true)], args := [d] }
  | _ => none }
def partWholeRow : OpenClaim := { program := "ytdajddcladapaaadoor", sum := "8af0dfe04953e5946047dc472addcda0187e5eea3c230277315e388b61ea197f", func := "gloaming/gloaminglaw11.PartWhole", spec := "partWhole", unfollowed := true, recurses := true, named := ["gloaming/geom.steps"], apart := false, laid := [("gloaming/geom.steps", laid_gloaming_geom_steps)] }
def PartWholeSaid : Prop := partWholeRow.holds Tryd.pinned (OpenSpec.ofChange partWholeSpec)

/-- ITS FALSE NEIGHBOUR: 'it returns false'. Refute it at one input. -/
def partWholeWrong : ChangeSpec := { name := "partWhole", fn := fun _ => fun
  | [d] => { results := [.lit (.bool false)], args := [d] }
  | _ => none }
def PartWholeWrongFalsely : Prop := partWholeRow.holds Tryd.pinned (OpenSpec.ofChange partWholeWrong)

/-- 'gloaminglaw11.PartSides': WHATEVER THE INPUT: true; the input reads as it did. -/
def partSidesSpec : ChangeSpec := { name := "partSides", fn := fun _ => fun
  | [d1, d2, d3] => { results := [.lit (.bool true)], args := [d1, d2, d3] }
  | _ => none }
def partSidesRow : OpenClaim := { program := "ytdajddcladapaaadoor", sum := "8af0dfe04953e5946047dc472addcda0187e5eea3c230277315e388b61ea197f", func := "gloaming/gloaminglaw11.PartSides", spec := "partSides", unfollowed := true, recurses := true, named := ["gloaming/geom.steps"], apart := false, laid := [("gloaming/geom.steps", laid_gloaming_geom_steps)] }
def PartSidesSaid : Prop := partSidesRow.holds Tryd.pinned (OpenSpec.ofChange partSidesSpec)

/-- ITS FALSE NEIGHBOUR: 'it returns false'. Refute it at one input. -/
def partSidesWrong : ChangeSpec := { name := "partSides", fn := fun _ => fun
  | [d1, d2, d3] => { results := [.lit (.bool false)], args := [d1, d2, d3] }
  | _ => none }
def PartSidesWrongFalsely : Prop := partSidesRow.holds Tryd.pinned (OpenSpec.ofChange partSidesWrong)

/- THE SECOND FORM. 'bulk': how many values and letters a reading holds, each counted each time it is reached (what is shared counts as often as it is met; a slice's spare places count too). A statement '..UptoSaid' is the law's where the arguments, and the package variables that the reading takes, are together of bulk at most 1048576: NARROWER than '..Said'. Prove '..Said' where nothing that the law and all that it calls make is longer than what came in: it says more and counts as full. Else prove '..UptoSaid'. A law counts once. -/
mutual
def uptoBulk {H : Type} : DataW H → Nat
  | .lit (.string bytes) => bytes.length + 1
  | .lit _ => 1
  | .nil => 1
  | .ptr d => uptoBulk d + 1
  | .slice elems spare => uptoBulkAll elems + uptoBulkAll spare + 1
  | .agg parts => uptoBulkAll parts + 1
  | .iface _ d => uptoBulk d + 1
  | .map entries => uptoBulkEntries entries + 1
  | .held _ => 1
def uptoBulkAll {H : Type} : List (DataW H) → Nat
  | [] => 0
  | d :: r => uptoBulk d + uptoBulkAll r
def uptoBulkEntries {H : Type} : List (Lit × DataW H) → Nat
  | [] => 0
  | x :: r => uptoBulkEntry x + uptoBulkEntries r
def uptoBulkEntry {H : Type} : Lit × DataW H → Nat
  | (.string bytes, d) => bytes.length + uptoBulk d + 1
  | (_, d) => uptoBulk d + 1
 end
def uptoSmall : (H : Type) → List (DataW H) → Bool := fun _ ds => decide (uptoBulkAll ds ≤ 1048576)
def OpenSpec.upto (s : _root_.Go.ChangeSpec) : _root_.Go.OpenSpec := { _root_.Go.OpenSpec.ofChange s with cond := some uptoSmall }

/-- 'gloaminglaw11.PartNew', WHERE WHAT IT READS IS OF BULK AT MOST 1048576: true; the input reads as it did. -/
def partNewUptoRow : OpenClaim := { program := "ytdajddcladapaaadoor", sum := "8af0dfe04953e5946047dc472addcda0187e5eea3c230277315e388b61ea197f", func := "gloaming/gloaminglaw11.PartNew", spec := "partNew", unfollowed := true, recurses := true, named := ["gloaming/geom.steps"], apart := false, laid := [("gloaming/geom.steps", laid_gloaming_geom_steps)], narrowed := true }
def PartNewUptoSaid : Prop := partNewUptoRow.holds Tryd.pinned (OpenSpec.upto partNewSpec)

/-- 'gloaminglaw11.PartBoxes', WHERE WHAT IT READS IS OF BULK AT MOST 1048576: true; the input reads as it did. -/
def partBoxesUptoRow : OpenClaim := { program := "ytdajddcladapaaadoor", sum := "8af0dfe04953e5946047dc472addcda0187e5eea3c230277315e388b61ea197f", func := "gloaming/gloaminglaw11.PartBoxes", spec := "partBoxes", unfollowed := true, recurses := true, named := ["gloaming/geom.steps"], apart := false, laid := [("gloaming/geom.steps", laid_gloaming_geom_steps)], narrowed := true }
def PartBoxesUptoSaid : Prop := partBoxesUptoRow.holds Tryd.pinned (OpenSpec.upto partBoxesSpec)

/-- 'gloaminglaw11.PartBorders', WHERE WHAT IT READS IS OF BULK AT MOST 1048576: true; the input reads as it did. -/
def partBordersUptoRow : OpenClaim := { program := "ytdajddcladapaaadoor", sum := "8af0dfe04953e5946047dc472addcda0187e5eea3c230277315e388b61ea197f", func := "gloaming/gloaminglaw11.PartBorders", spec := "partBorders", unfollowed := true, recurses := true, named := ["gloaming/geom.steps"], apart := false, laid := [("gloaming/geom.steps", laid_gloaming_geom_steps)], narrowed := true }
def PartBordersUptoSaid : Prop := partBordersUptoRow.holds Tryd.pinned (OpenSpec.upto partBordersSpec)

/-- 'gloaminglaw11.PartWhole', WHERE WHAT IT READS IS OF BULK AT MOST 1048576: true; the input reads as it did. -/
def partWholeUptoRow : OpenClaim := { program := "ytdajddcladapaaadoor", sum := "8af0dfe04953e5946047dc472addcda0187e5eea3c230277315e388b61ea197f", func := "gloaming/gloaminglaw11.PartWhole", spec := "partWhole", unfollowed := true, recurses := true, named := ["gloaming/geom.steps"], apart := false, laid := [("gloaming/geom.steps", laid_gloaming_geom_steps)], narrowed := true }
def PartWholeUptoSaid : Prop := partWholeUptoRow.holds Tryd.pinned (OpenSpec.upto partWholeSpec)

/-- 'gloaminglaw11.PartSides', WHERE WHAT IT READS IS OF BULK AT MOST 1048576: true; the input reads as it did. -/
def partSidesUptoRow : OpenClaim := { program := "ytdajddcladapaaadoor", sum := "8af0dfe04953e5946047dc472addcda0187e5eea3c230277315e388b61ea197f", func := "gloaming/gloaminglaw11.PartSides", spec := "partSides", unfollowed := true, recurses := true, named := ["gloaming/geom.steps"], apart := false, laid := [("gloaming/geom.steps", laid_gloaming_geom_steps)], narrowed := true }
def PartSidesUptoSaid : Prop := partSidesUptoRow.holds Tryd.pinned (OpenSpec.upto partSidesSpec)

end Rows
end Go.Proofs.YtdajddcladapaaaDoor
