/-
  NARROWER THAN 'FOR EVERY INPUT', by the rows' own cells (each row's printed sentence says how): RouteChecks: laid · RouteMoves: laid · RouteBacks: laid · RouteJoins: laid · RouteTurns: laid.
  DERIVED. THE GIVEN ROWS OF THIS SEAT. 5 by the template 'for every input the law returns true; each argument reads behind the call as it read before'; 0 by the template 'total and deterministic' (their statements: YtlmloedjakpogabDoorTotals.lean).
  GIVEN WITH THE SEED: the statements are not yours to turn. If you find one false, say at which input.
  Laid BY PROGRAM, IN A SANDBOX (cutbox-rows.mjs): the forced cells as the released guide's own fill.sh prints them over the translation e2a9a051437609a0… (all of the seat's roots in one cut). By AI agents, Wed Nov 11 2026. No macro, syntax, notation, axiom, sorry.
-/
import Derived.Test.YtlmloedjakpogabDoorChecked
import GoSem.Claim
import GoSem.ClaimJoined
import GoSem.ClaimMapViews
import Derived.JoinedTies
import Derived.KernelRfl
namespace Go.Proofs.YtlmloedjakpogabDoor
/- THE CELL 'sum', in the pinned program and in every row, IS THE sha256 OF THE DUMP (.gsa) THAT YtlmloedjakpogabDoorProg.lean LOADS. Nothing in Lean hashes anything: it is a label: what it is worth is what the hold of that sum in a sandbox is worth. -/
noncomputable def Tryd.pinned : Pinned := { name := "ytlmloedjakpogabdoor", sum := "e2a9a051437609a0abae94e048f51672976fec77db2f78ef4c799724cb84d7f0", checked := Tryd.checked }
namespace Rows
def none {H : Type} : Left H := { results := [], args := [] }

/- WHAT THE LISTED PACKAGE-LEVEL VARIABLES READ AS WHEN THE CALL BEGINS. Each datum BY PROGRAM (the guide's laid-datum.mjs) off the statement by which the dump's own 'gosem.cut.vars' lays the variable. In a bare row this is a premise. The card (YtlmloedjakpogabDoorCards.lean) ties it to the program's text. -/
def laid_gloaming_geom_steps {H : Type} : DataW H := .agg [.agg [.lit (.int .i64 0), .lit (.int .i64 (-1))], .agg [.lit (.int .i64 1), .lit (.int .i64 0)], .agg [.lit (.int .i64 0), .lit (.int .i64 1)], .agg [.lit (.int .i64 (-1)), .lit (.int .i64 0)]]

/-- 'gloaminglaw09.RouteChecks': WHATEVER THE INPUT: true; the input reads as it did. -/
def routeChecksSpec : ChangeSpec := { name := "routeChecks", fn := fun _ => fun
  | [d1, d2] => { results := [.lit (.bool true)], args := [d1, d2] }
  | _ => none }
def routeChecksRow : OpenClaim := { program := "ytlmloedjakpogabdoor", sum := "e2a9a051437609a0abae94e048f51672976fec77db2f78ef4c799724cb84d7f0", func := "gloaming/gloaminglaw09.RouteChecks", spec := "routeChecks", unfollowed := true, recurses := true, named := ["gloaming/geom.steps"], apart := false, laid := [("gloaming/geom.steps", laid_gloaming_geom_steps)] }
def RouteChecksSaid : Prop := routeChecksRow.holds Tryd.pinned (OpenSpec.ofChange routeChecksSpec)

/-- ITS FALSE NEIGHBOUR: 'it returns false'. Refute it at one input. -/
def routeChecksWrong : ChangeSpec := { name := "routeChecks", fn := fun _ => fun
  | [d1, d2] => { results := [.lit (.bool false)], args := [d1, d2] }
  | _ => none }
def RouteChecksWrongFalsely : Prop := routeChecksRow.holds Tryd.pinned (OpenSpec.ofChange routeChecksWrong)

/-- 'gloaminglaw09.RouteMoves': WHATEVER THE INPUT: true; the input reads as it did. -/
def routeMovesSpec : ChangeSpec := { name := "routeMoves", fn := fun _ => fun
  | [d1, d2, d3] => { results := [.lit (.bool true)], args := [d1, d2, d3] }
  | _ => none }
def routeMovesRow : OpenClaim := { program := "ytlmloedjakpogabdoor", sum := "e2a9a051437609a0abae94e048f51672976fec77db2f78ef4c799724cb84d7f0", func := "gloaming/gloaminglaw09.RouteMoves", spec := "routeMoves", unfollowed := true, recurses := true, named := ["gloaming/geom.steps"], apart := false, laid := [("gloaming/geom.steps", laid_gloaming_geom_steps)] }
def RouteMovesSaid : Prop := routeMovesRow.holds Tryd.pinned (OpenSpec.ofChange routeMovesSpec)

/-- ITS FALSE NEIGHBOUR: 'it returns false'. Refute it at one input. -/
def routeMovesWrong : ChangeSpec := { name := "routeMoves", fn := fun _ => fun
  | [d1, d2, d3] => { results := [.lit (.bool false)], args := [d1, d2, d3] }
  | _ => none }
def RouteMovesWrongFalsely : Prop := routeMovesRow.holds Tryd.pinned (OpenSpec.ofChange routeMovesWrong)

/-- 'gloaminglaw09.RouteBacks': WHATEVER THE INPUT: true; the input reads as it did. -/
def routeBacksSpec : ChangeSpec := { name := "routeBacks", fn := fun _ => fun
  | [d1, d2, d3] => { results := [.lit (.bool true)], args := [d1, d2, d3] }
  | _ => none }
def routeBacksRow : OpenClaim := { program := "ytlmloedjakpogabdoor", sum := "e2a9a051437609a0abae94e048f51672976fec77db2f78ef4c799724cb84d7f0", func := "gloaming/gloaminglaw09.RouteBacks", spec := "routeBacks", unfollowed := true, recurses := true, named := ["gloaming/geom.steps"], apart := false, laid := [("gloaming/geom.steps", laid_gloaming_geom_steps)] }
def RouteBacksSaid : Prop := routeBacksRow.holds Tryd.pinned (OpenSpec.ofChange routeBacksSpec)

/-- ITS FALSE NEIGHBOUR: 'it returns false'. Refute it at one input. -/
def routeBacksWrong : ChangeSpec := { name := "routeBacks", fn := fun _ => fun
  | [d1, d2, d3] => { results := [.lit (.bool false)], args := [d1, d2, d3] }
  | _ => none }
def RouteBacksWrongFalsely : Prop := routeBacksRow.holds Tryd.pinned (OpenSpec.ofChange routeBacksWrong)

/-- 'gloaminglaw09.RouteJoins': WHATEVER THE INPUT: true; the input reads as it did. -/
def routeJoinsSpec : ChangeSpec := { name := "routeJoins", fn := fun _ => fun
  | [d1, d2, d3] => { results := [.lit (.bool true)], args := [d1, d2, d3] }
  | _ => none }
def routeJoinsRow : OpenClaim := { program := "ytlmloedjakpogabdoor", sum := "e2a9a051437609a0abae94e048f51672976fec77db2f78ef4c799724cb84d7f0", func := "gloaming/gloaminglaw09.RouteJoins", spec := "routeJoins", unfollowed := true, recurses := true, named := ["gloaming/geom.steps"], apart := false, laid := [("gloaming/geom.steps", laid_gloaming_geom_steps)] }
def RouteJoinsSaid : Prop := routeJoinsRow.holds Tryd.pinned (OpenSpec.ofChange routeJoinsSpec)

/-- ITS FALSE NEIGHBOUR: 'it returns false'. Refute it at one input. -/
def routeJoinsWrong : ChangeSpec := { name := "routeJoins", fn := fun _ => fun
  | [d1, d2, d3] => { results := [.lit (.bool false)], args := [d1, d2, d3] }
  | _ => none }
def RouteJoinsWrongFalsely : Prop := routeJoinsRow.holds Tryd.pinned (OpenSpec.ofChange routeJoinsWrong)

/-- 'gloaminglaw09.RouteTurns': WHATEVER THE INPUT: true; the input reads as it did. -/
def routeTurnsSpec : ChangeSpec := { name := "routeTurns", fn := fun _ => fun
  | [d1, d2] => { results := [.lit (.bool true)], args := [d1, d2] }
  | _ => none }
def routeTurnsRow : OpenClaim := { program := "ytlmloedjakpogabdoor", sum := "e2a9a051437609a0abae94e048f51672976fec77db2f78ef4c799724cb84d7f0", func := "gloaming/gloaminglaw09.RouteTurns", spec := "routeTurns", unfollowed := true, recurses := true, named := ["gloaming/geom.steps"], apart := false, laid := [("gloaming/geom.steps", laid_gloaming_geom_steps)] }
def RouteTurnsSaid : Prop := routeTurnsRow.holds Tryd.pinned (OpenSpec.ofChange routeTurnsSpec)

/-- ITS FALSE NEIGHBOUR: 'it returns false'. Refute it at one input. -/
def routeTurnsWrong : ChangeSpec := { name := "routeTurns", fn := fun _ => fun
  | [d1, d2] => { results := [.lit (.bool false)], args := [d1, d2] }
  | _ => none }
def RouteTurnsWrongFalsely : Prop := routeTurnsRow.holds Tryd.pinned (OpenSpec.ofChange routeTurnsWrong)

/- THE SECOND FORM. 'bulk': how many values and letters a reading holds, each counted each time it is reached (what is shared counts as often as it is met; a slice's spare places count too). A statement '..UptoSaid' is the law's where the arguments, and the package variables that the reading takes, are together of bulk at most 1048576: NARROWER than '..Said'. Prove '..Said' where nothing that the law and all that it calls make is longer than what came in: it says more and counts as full. Else prove '..UptoSaid'. A law counts once. -/
mutual
def uptoBulk {H : Type} : DataW H → Nat
  | .lit (.string bytes) => bytes.length + 1
  | .lit _ => 1
  | .nil => 1
  | .ptr d => uptoBulk d + 1
  | .slice elems spare => uptoBulkAll elems + uptoBulkAll spare + 1
  | .agg parts => uptoBulkAll parts + 1
  | .iface _ d => uptoBulk d + 1
  | .map entries => uptoBulkEntries entries + 1
  | .held _ => 1
def uptoBulkAll {H : Type} : List (DataW H) → Nat
  | [] => 0
  | d :: r => uptoBulk d + uptoBulkAll r
def uptoBulkEntries {H : Type} : List (Lit × DataW H) → Nat
  | [] => 0
  | x :: r => uptoBulkEntry x + uptoBulkEntries r
def uptoBulkEntry {H : Type} : Lit × DataW H → Nat
  | (.string bytes, d) => bytes.length + uptoBulk d + 1
  | (_, d) => uptoBulk d + 1
 end
def uptoSmall : (H : Type) → List (DataW H) → Bool := fun _ ds => decide (uptoBulkAll ds ≤ 1048576)
def OpenSpec.upto (s : _root_.Go.ChangeSpec) : _root_.Go.OpenSpec := { _root_.Go.OpenSpec.ofChange s with cond := some uptoSmall }

/-- 'gloaminglaw09.RouteChecks', WHERE WHAT IT READS IS OF BULK AT MOST 1048576: true; the input reads as it did. -/
def routeChecksUptoRow : OpenClaim := { program := "ytlmloedjakpogabdoor", sum := "e2a9a051437609a0abae94e048f51672976fec77db2f78ef4c799724cb84d7f0", func := "gloaming/gloaminglaw09.RouteChecks", spec := "routeChecks", unfollowed := true, recurses := true, named := ["gloaming/geom.steps"], apart := false, laid := [("gloaming/geom.steps", laid_gloaming_geom_steps)], narrowed := true }
def RouteChecksUptoSaid : Prop := routeChecksUptoRow.holds Tryd.pinned (OpenSpec.upto routeChecksSpec)

/-- 'gloaminglaw09.RouteMoves', WHERE WHAT IT READS IS OF BULK AT MOST 1048576: true; the input reads as it did. -/
def routeMovesUptoRow : OpenClaim := { program := "ytlmloedjakpogabdoor", sum := "e2a9a051437609a0abae94e048f51672976fec77db2f78ef4c799724cb84d7f0", func := "gloaming/gloaminglaw09.RouteMoves", spec := "routeMoves", unfollowed := true, recurses := true, named := ["gloaming/geom.steps"], apart := false, laid := [("gloaming/geom.steps", laid_gloaming_geom_steps)], narrowed := true }
def RouteMovesUptoSaid : Prop := routeMovesUptoRow.holds Tryd.pinned (OpenSpec.upto routeMovesSpec)

/-- 'gloaminglaw09.RouteBacks', WHERE WHAT IT READS IS OF BULK AT MOST 1048576: true; the input reads as it did. -/
def routeBacksUptoRow : OpenClaim := { program := "ytlmloedjakpogabdoor", sum := "e2a9a051437609a0abae94e048f51672976fec77db2f78ef4c799724cb84d7f0", func := "gloaming/gloaminglaw09.RouteBacks", spec := "routeBacks", unfollowed := true, recurses := true, named := ["gloaming/geom.steps"], apart := false, laid := [("gloaming/geom.steps", laid_gloaming_geom_steps)], narrowed := true }
def RouteBacksUptoSaid : Prop := routeBacksUptoRow.holds Tryd.pinned (OpenSpec.upto routeBacksSpec)

/-- 'gloaminglaw09.RouteJoins', WHERE WHAT IT READS IS OF BULK AT MOST 1048576: true; the input reads as it did. -/
def routeJoinsUptoRow : OpenClaim := { program := "ytlmloedjakpogabdoor", sum := "e2a9a051437609a0abae94e048f51672976fec77db2f78ef4c799724cb84d7f0", func := "gloaming/gloaminglaw09.RouteJoins", spec := "routeJoins", unfollowed := true, recurses := true, named := ["gloaming/geom.steps"], apart := false, laid := [("gloaming/geom.steps", laid_gloaming_geom_steps)], narrowed := true }
def RouteJoinsUptoSaid : Prop := routeJoinsUptoRow.holds Tryd.pinned (OpenSpec.upto routeJoinsSpec)

/-- 'gloaminglaw09.RouteTurns', WHERE WHAT IT READS IS OF BULK AT MOST 1048576: true; the input reads as it did. -/
def routeTurnsUptoRow : OpenClaim := { program := "ytlmloedjakpogabdoor", sum := "e2a9a051437609a0abae94e048f51672976fec77db2f78ef4c799724cb84d7f0", func := "gloaming/gloaminglaw09.RouteTurns", spec := "routeTurns", unfollowed := true, recurses := true, named := ["gloaming/geom.steps"], apart := false, laid := [("gloaming/geom.steps", laid_gloaming_geom_steps)], narrowed := true }
def RouteTurnsUptoSaid : Prop := routeTurnsUptoRow.holds Tryd.pinned (OpenSpec.upto routeTurnsSpec)

end Rows
end Go.Proofs.YtlmloedjakpogabDoor
