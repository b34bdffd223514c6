/-
  NARROWER THAN 'FOR EVERY INPUT', by the rows' own cells (each row's printed sentence says how): FloodFar: laid · FloodPaths: laid · GateOf: laid · InnerOf: laid · InnerTo: laid · InnerVia: laid · InnerOwn: laid · InnerSame: laid.
  DERIVED. THE GIVEN ROWS OF THIS SEAT. 8 by the template 'for every input the law returns true; each argument reads behind the call as it read before'; 0 by the template 'total and deterministic' (their statements: YtbdfjdipjacamaaDoorTotals.lean).
  GIVEN WITH THE SEED: the statements are not yours to turn. If you find one false, say at which input.
  Laid BY PROGRAM, IN A SANDBOX (cutbox-rows.mjs): the forced cells as the released guide's own fill.sh prints them over the translation 60ff52876de38f83… (all of the seat's roots in one cut). By AI agents, Wed Nov 11 2026. No macro, syntax, notation, axiom, sorry.
-/
import Derived.Test.YtbdfjdipjacamaaDoorChecked
import GoSem.Claim
import GoSem.ClaimJoined
import GoSem.ClaimMapViews
import Derived.JoinedTies
import Derived.KernelRfl
namespace Go.Proofs.YtbdfjdipjacamaaDoor
/- THE CELL 'sum', in the pinned program and in every row, IS THE sha256 OF THE DUMP (.gsa) THAT YtbdfjdipjacamaaDoorProg.lean LOADS. Nothing in Lean hashes anything: it is a label: what it is worth is what the hold of that sum in a sandbox is worth. -/
noncomputable def Tryd.pinned : Pinned := { name := "ytbdfjdipjacamaadoor", sum := "60ff52876de38f832993056be74e748c08bb6a1dfb4c9056e9bb9d36d512b54f", checked := Tryd.checked }
namespace Rows
def none {H : Type} : Left H := { results := [], args := [] }

/- WHAT THE LISTED PACKAGE-LEVEL VARIABLES READ AS WHEN THE CALL BEGINS. Each datum BY PROGRAM (the guide's laid-datum.mjs) off the statement by which the dump's own 'gosem.cut.vars' lays the variable. In a bare row this is a premise. The card (YtbdfjdipjacamaaDoorCards.lean) ties it to the program's text. -/
def laid_gloaming_geom_steps {H : Type} : DataW H := .agg [.agg [.lit (.int .i64 0), .lit (.int .i64 (-1))], .agg [.lit (.int .i64 1), .lit (.int .i64 0)], .agg [.lit (.int .i64 0), .lit (.int .i64 1)], .agg [.lit (.int .i64 (-1)), .lit (.int .i64 0)]]

/-- 'gloaminglaw08.FloodFar': WHATEVER THE INPUT: true; the input reads as it did. -/
def floodFarSpec : ChangeSpec := { name := "floodFar", fn := fun _ => fun
  | [d1, d2, d3] => { results := [.lit (.bool true)], args := [d1, d2, d3] }
  | _ => none }
def floodFarRow : OpenClaim := { program := "ytbdfjdipjacamaadoor", sum := "60ff52876de38f832993056be74e748c08bb6a1dfb4c9056e9bb9d36d512b54f", func := "gloaming/gloaminglaw08.FloodFar", spec := "floodFar", inPlace := ["math/bits.Add64"], unfollowed := true, recurses := true, named := ["gloaming/geom.steps"], apart := false, laid := [("gloaming/geom.steps", laid_gloaming_geom_steps)] }
def FloodFarSaid : Prop := floodFarRow.holds Tryd.pinned (OpenSpec.ofChange floodFarSpec)

/-- ITS FALSE NEIGHBOUR: 'it returns false'. Refute it at one input. -/
def floodFarWrong : ChangeSpec := { name := "floodFar", fn := fun _ => fun
  | [d1, d2, d3] => { results := [.lit (.bool false)], args := [d1, d2, d3] }
  | _ => none }
def FloodFarWrongFalsely : Prop := floodFarRow.holds Tryd.pinned (OpenSpec.ofChange floodFarWrong)

/-- 'gloaminglaw08.FloodPaths': WHATEVER THE INPUT: true; the input reads as it did. -/
def floodPathsSpec : ChangeSpec := { name := "floodPaths", fn := fun _ => fun
  | [d1, d2, d3] => { results := [.lit (.bool true)], args := [d1, d2, d3] }
  | _ => none }
def floodPathsRow : OpenClaim := { program := "ytbdfjdipjacamaadoor", sum := "60ff52876de38f832993056be74e748c08bb6a1dfb4c9056e9bb9d36d512b54f", func := "gloaming/gloaminglaw08.FloodPaths", spec := "floodPaths", inPlace := ["math/bits.Add64"], unfollowed := true, recurses := true, named := ["gloaming/geom.steps"], apart := false, laid := [("gloaming/geom.steps", laid_gloaming_geom_steps)] }
def FloodPathsSaid : Prop := floodPathsRow.holds Tryd.pinned (OpenSpec.ofChange floodPathsSpec)

/-- ITS FALSE NEIGHBOUR: 'it returns false'. Refute it at one input. -/
def floodPathsWrong : ChangeSpec := { name := "floodPaths", fn := fun _ => fun
  | [d1, d2, d3] => { results := [.lit (.bool false)], args := [d1, d2, d3] }
  | _ => none }
def FloodPathsWrongFalsely : Prop := floodPathsRow.holds Tryd.pinned (OpenSpec.ofChange floodPathsWrong)

/-- 'gloaminglaw12.GateOf': WHATEVER THE INPUT: true; the input reads as it did. -/
def gateOfSpec : ChangeSpec := { name := "gateOf", fn := fun _ => fun
  | [d1, d2, d3] => { results := [.lit (.bool true)], args := [d1, d2, d3] }
  | _ => none }
def gateOfRow : OpenClaim := { program := "ytbdfjdipjacamaadoor", sum := "60ff52876de38f832993056be74e748c08bb6a1dfb4c9056e9bb9d36d512b54f", func := "gloaming/gloaminglaw12.GateOf", spec := "gateOf", unfollowed := true, recurses := true, named := ["gloaming/geom.steps"], apart := false, laid := [("gloaming/geom.steps", laid_gloaming_geom_steps)] }
def GateOfSaid : Prop := gateOfRow.holds Tryd.pinned (OpenSpec.ofChange gateOfSpec)

/-- ITS FALSE NEIGHBOUR: 'it returns false'. Refute it at one input. -/
def gateOfWrong : ChangeSpec := { name := "gateOf", fn := fun _ => fun
  | [d1, d2, d3] => { results := [.lit (.bool false)], args := [d1, d2, d3] }
  | _ => none }
def GateOfWrongFalsely : Prop := gateOfRow.holds Tryd.pinned (OpenSpec.ofChange gateOfWrong)

/-- 'gloaminglaw13.InnerOf': WHATEVER THE INPUT: true; the input reads as it did. -/
def innerOfSpec : ChangeSpec := { name := "innerOf", fn := fun _ => fun
  | [d1, d2, d3] => { results := [.lit (.bool true)], args := [d1, d2, d3] }
  | _ => none }
def innerOfRow : OpenClaim := { program := "ytbdfjdipjacamaadoor", sum := "60ff52876de38f832993056be74e748c08bb6a1dfb4c9056e9bb9d36d512b54f", func := "gloaming/gloaminglaw13.InnerOf", spec := "innerOf", inPlace := ["math/bits.Add64"], unfollowed := true, recurses := true, named := ["gloaming/geom.steps"], apart := false, laid := [("gloaming/geom.steps", laid_gloaming_geom_steps)] }
def InnerOfSaid : Prop := innerOfRow.holds Tryd.pinned (OpenSpec.ofChange innerOfSpec)

/-- ITS FALSE NEIGHBOUR: 'it returns false'. Refute it at one input. -/
def innerOfWrong : ChangeSpec := { name := "innerOf", fn := fun _ => fun
  | [d1, d2, d3] => { results := [.lit (.bool false)], args := [d1, d2, d3] }
  | _ => none }
def InnerOfWrongFalsely : Prop := innerOfRow.holds Tryd.pinned (OpenSpec.ofChange innerOfWrong)

/-- 'gloaminglaw13.InnerTo': WHATEVER THE INPUT: true; the input reads as it did. -/
def innerToSpec : ChangeSpec := { name := "innerTo", fn := fun _ => fun
  | [d1, d2, d3] => { results := [.lit (.bool true)], args := [d1, d2, d3] }
  | _ => none }
def innerToRow : OpenClaim := { program := "ytbdfjdipjacamaadoor", sum := "60ff52876de38f832993056be74e748c08bb6a1dfb4c9056e9bb9d36d512b54f", func := "gloaming/gloaminglaw13.InnerTo", spec := "innerTo", inPlace := ["math/bits.Add64"], unfollowed := true, recurses := true, named := ["gloaming/geom.steps"], apart := false, laid := [("gloaming/geom.steps", laid_gloaming_geom_steps)] }
def InnerToSaid : Prop := innerToRow.holds Tryd.pinned (OpenSpec.ofChange innerToSpec)

/-- ITS FALSE NEIGHBOUR: 'it returns false'. Refute it at one input. -/
def innerToWrong : ChangeSpec := { name := "innerTo", fn := fun _ => fun
  | [d1, d2, d3] => { results := [.lit (.bool false)], args := [d1, d2, d3] }
  | _ => none }
def InnerToWrongFalsely : Prop := innerToRow.holds Tryd.pinned (OpenSpec.ofChange innerToWrong)

/-- 'gloaminglaw13.InnerVia': WHATEVER THE INPUT: true; the input reads as it did. -/
def innerViaSpec : ChangeSpec := { name := "innerVia", fn := fun _ => fun
  | [d1, d2, d3] => { results := [.lit (.bool true)], args := [d1, d2, d3] }
  | _ => none }
def innerViaRow : OpenClaim := { program := "ytbdfjdipjacamaadoor", sum := "60ff52876de38f832993056be74e748c08bb6a1dfb4c9056e9bb9d36d512b54f", func := "gloaming/gloaminglaw13.InnerVia", spec := "innerVia", inPlace := ["math/bits.Add64"], unfollowed := true, recurses := true, named := ["gloaming/geom.steps"], apart := false, laid := [("gloaming/geom.steps", laid_gloaming_geom_steps)] }
def InnerViaSaid : Prop := innerViaRow.holds Tryd.pinned (OpenSpec.ofChange innerViaSpec)

/-- ITS FALSE NEIGHBOUR: 'it returns false'. Refute it at one input. -/
def innerViaWrong : ChangeSpec := { name := "innerVia", fn := fun _ => fun
  | [d1, d2, d3] => { results := [.lit (.bool false)], args := [d1, d2, d3] }
  | _ => none }
def InnerViaWrongFalsely : Prop := innerViaRow.holds Tryd.pinned (OpenSpec.ofChange innerViaWrong)

/-- 'gloaminglaw13.InnerOwn': WHATEVER THE INPUT: true; the input reads as it did. -/
def innerOwnSpec : ChangeSpec := { name := "innerOwn", fn := fun _ => fun
  | [d1, d2, d3] => { results := [.lit (.bool true)], args := [d1, d2, d3] }
  | _ => none }
def innerOwnRow : OpenClaim := { program := "ytbdfjdipjacamaadoor", sum := "60ff52876de38f832993056be74e748c08bb6a1dfb4c9056e9bb9d36d512b54f", func := "gloaming/gloaminglaw13.InnerOwn", spec := "innerOwn", inPlace := ["math/bits.Add64"], unfollowed := true, recurses := true, named := ["gloaming/geom.steps"], apart := false, laid := [("gloaming/geom.steps", laid_gloaming_geom_steps)] }
def InnerOwnSaid : Prop := innerOwnRow.holds Tryd.pinned (OpenSpec.ofChange innerOwnSpec)

/-- ITS FALSE NEIGHBOUR: 'it returns false'. Refute it at one input. -/
def innerOwnWrong : ChangeSpec := { name := "innerOwn", fn := fun _ => fun
  | [d1, d2, d3] => { results := [.lit (.bool false)], args := [d1, d2, d3] }
  | _ => none }
def InnerOwnWrongFalsely : Prop := innerOwnRow.holds Tryd.pinned (OpenSpec.ofChange innerOwnWrong)

/-- 'gloaminglaw13.InnerSame': WHATEVER THE INPUT: true; the input reads as it did. -/
def innerSameSpec : ChangeSpec := { name := "innerSame", fn := fun _ => fun
  | [d1, d2] => { results := [.lit (.bool true)], args := [d1, d2] }
  | _ => none }
def innerSameRow : OpenClaim := { program := "ytbdfjdipjacamaadoor", sum := "60ff52876de38f832993056be74e748c08bb6a1dfb4c9056e9bb9d36d512b54f", func := "gloaming/gloaminglaw13.InnerSame", spec := "innerSame", inPlace := ["math/bits.Add64"], unfollowed := true, recurses := true, named := ["gloaming/geom.steps"], apart := false, laid := [("gloaming/geom.steps", laid_gloaming_geom_steps)] }
def InnerSameSaid : Prop := innerSameRow.holds Tryd.pinned (OpenSpec.ofChange innerSameSpec)

/-- ITS FALSE NEIGHBOUR: 'it returns false'. Refute it at one input. -/
def innerSameWrong : ChangeSpec := { name := "innerSame", fn := fun _ => fun
  | [d1, d2] => { results := [.lit (.bool false)], args := [d1, d2] }
  | _ => none }
def InnerSameWrongFalsely : Prop := innerSameRow.holds Tryd.pinned (OpenSpec.ofChange innerSameWrong)

/- THE SECOND FORM. 'bulk': how many values and letters a reading holds, each counted each time it is reached (what is shared counts as often as it is met; a slice's spare places count too). A statement '..UptoSaid' is the law's where the arguments, and the package variables that the reading takes, are together of bulk at most 1048576: NARROWER than '..Said'. Prove '..Said' where nothing that the law and all that it calls make is longer than what came in: it says more and counts as full. Else prove '..UptoSaid'. A law counts once. -/
mutual
def uptoBulk {H : Type} : DataW H → Nat
  | .lit (.string bytes) => bytes.length + 1
  | .lit _ => 1
  | .nil => 1
  | .ptr d => uptoBulk d + 1
  | .slice elems spare => uptoBulkAll elems + uptoBulkAll spare + 1
  | .agg parts => uptoBulkAll parts + 1
  | .iface _ d => uptoBulk d + 1
  | .map entries => uptoBulkEntries entries + 1
  | .held _ => 1
def uptoBulkAll {H : Type} : List (DataW H) → Nat
  | [] => 0
  | d :: r => uptoBulk d + uptoBulkAll r
def uptoBulkEntries {H : Type} : List (Lit × DataW H) → Nat
  | [] => 0
  | x :: r => uptoBulkEntry x + uptoBulkEntries r
def uptoBulkEntry {H : Type} : Lit × DataW H → Nat
  | (.string bytes, d) => bytes.length + uptoBulk d + 1
  | (_, d) => uptoBulk d + 1
 end
def uptoSmall : (H : Type) → List (DataW H) → Bool := fun _ ds => decide (uptoBulkAll ds ≤ 1048576)
def OpenSpec.upto (s : _root_.Go.ChangeSpec) : _root_.Go.OpenSpec := { _root_.Go.OpenSpec.ofChange s with cond := some uptoSmall }

/-- 'gloaminglaw08.FloodFar', WHERE WHAT IT READS IS OF BULK AT MOST 1048576: true; the input reads as it did. -/
def floodFarUptoRow : OpenClaim := { program := "ytbdfjdipjacamaadoor", sum := "60ff52876de38f832993056be74e748c08bb6a1dfb4c9056e9bb9d36d512b54f", func := "gloaming/gloaminglaw08.FloodFar", spec := "floodFar", inPlace := ["math/bits.Add64"], unfollowed := true, recurses := true, named := ["gloaming/geom.steps"], apart := false, laid := [("gloaming/geom.steps", laid_gloaming_geom_steps)], narrowed := true }
def FloodFarUptoSaid : Prop := floodFarUptoRow.holds Tryd.pinned (OpenSpec.upto floodFarSpec)

/-- 'gloaminglaw08.FloodPaths', WHERE WHAT IT READS IS OF BULK AT MOST 1048576: true; the input reads as it did. -/
def floodPathsUptoRow : OpenClaim := { program := "ytbdfjdipjacamaadoor", sum := "60ff52876de38f832993056be74e748c08bb6a1dfb4c9056e9bb9d36d512b54f", func := "gloaming/gloaminglaw08.FloodPaths", spec := "floodPaths", inPlace := ["math/bits.Add64"], unfollowed := true, recurses := true, named := ["gloaming/geom.steps"], apart := false, laid := [("gloaming/geom.steps", laid_gloaming_geom_steps)], narrowed := true }
def FloodPathsUptoSaid : Prop := floodPathsUptoRow.holds Tryd.pinned (OpenSpec.upto floodPathsSpec)

/-- 'gloaminglaw12.GateOf', WHERE WHAT IT READS IS OF BULK AT MOST 1048576: true; the input reads as it did. -/
def gateOfUptoRow : OpenClaim := { program := "ytbdfjdipjacamaadoor", sum := "60ff52876de38f832993056be74e748c08bb6a1dfb4c9056e9bb9d36d512b54f", func := "gloaming/gloaminglaw12.GateOf", spec := "gateOf", unfollowed := true, recurses := true, named := ["gloaming/geom.steps"], apart := false, laid := [("gloaming/geom.steps", laid_gloaming_geom_steps)], narrowed := true }
def GateOfUptoSaid : Prop := gateOfUptoRow.holds Tryd.pinned (OpenSpec.upto gateOfSpec)

/-- 'gloaminglaw13.InnerOf', WHERE WHAT IT READS IS OF BULK AT MOST 1048576: true; the input reads as it did. -/
def innerOfUptoRow : OpenClaim := { program := "ytbdfjdipjacamaadoor", sum := "60ff52876de38f832993056be74e748c08bb6a1dfb4c9056e9bb9d36d512b54f", func := "gloaming/gloaminglaw13.InnerOf", spec := "innerOf", inPlace := ["math/bits.Add64"], unfollowed := true, recurses := true, named := ["gloaming/geom.steps"], apart := false, laid := [("gloaming/geom.steps", laid_gloaming_geom_steps)], narrowed := true }
def InnerOfUptoSaid : Prop := innerOfUptoRow.holds Tryd.pinned (OpenSpec.upto innerOfSpec)

/-- 'gloaminglaw13.InnerTo', WHERE WHAT IT READS IS OF BULK AT MOST 1048576: true; the input reads as it did. -/
def innerToUptoRow : OpenClaim := { program := "ytbdfjdipjacamaadoor", sum := "60ff52876de38f832993056be74e748c08bb6a1dfb4c9056e9bb9d36d512b54f", func := "gloaming/gloaminglaw13.InnerTo", spec := "innerTo", inPlace := ["math/bits.Add64"], unfollowed := true, recurses := true, named := ["gloaming/geom.steps"], apart := false, laid := [("gloaming/geom.steps", laid_gloaming_geom_steps)], narrowed := true }
def InnerToUptoSaid : Prop := innerToUptoRow.holds Tryd.pinned (OpenSpec.upto innerToSpec)

/-- 'gloaminglaw13.InnerVia', WHERE WHAT IT READS IS OF BULK AT MOST 1048576: true; the input reads as it did. -/
def innerViaUptoRow : OpenClaim := { program := "ytbdfjdipjacamaadoor", sum := "60ff52876de38f832993056be74e748c08bb6a1dfb4c9056e9bb9d36d512b54f", func := "gloaming/gloaminglaw13.InnerVia", spec := "innerVia", inPlace := ["math/bits.Add64"], unfollowed := true, recurses := true, named := ["gloaming/geom.steps"], apart := false, laid := [("gloaming/geom.steps", laid_gloaming_geom_steps)], narrowed := true }
def InnerViaUptoSaid : Prop := innerViaUptoRow.holds Tryd.pinned (OpenSpec.upto innerViaSpec)

/-- 'gloaminglaw13.InnerOwn', WHERE WHAT IT READS IS OF BULK AT MOST 1048576: true; the input reads as it did. -/
def innerOwnUptoRow : OpenClaim := { program := "ytbdfjdipjacamaadoor", sum := "60ff52876de38f832993056be74e748c08bb6a1dfb4c9056e9bb9d36d512b54f", func := "gloaming/gloaminglaw13.InnerOwn", spec := "innerOwn", inPlace := ["math/bits.Add64"], unfollowed := true, recurses := true, named := ["gloaming/geom.steps"], apart := false, laid := [("gloaming/geom.steps", laid_gloaming_geom_steps)], narrowed := true }
def InnerOwnUptoSaid : Prop := innerOwnUptoRow.holds Tryd.pinned (OpenSpec.upto innerOwnSpec)

/-- 'gloaminglaw13.InnerSame', WHERE WHAT IT READS IS OF BULK AT MOST 1048576: true; the input reads as it did. -/
def innerSameUptoRow : OpenClaim := { program := "ytbdfjdipjacamaadoor", sum := "60ff52876de38f832993056be74e748c08bb6a1dfb4c9056e9bb9d36d512b54f", func := "gloaming/gloaminglaw13.InnerSame", spec := "innerSame", inPlace := ["math/bits.Add64"], unfollowed := true, recurses := true, named := ["gloaming/geom.steps"], apart := false, laid := [("gloaming/geom.steps", laid_gloaming_geom_steps)], narrowed := true }
def InnerSameUptoSaid : Prop := innerSameUptoRow.holds Tryd.pinned (OpenSpec.upto innerSameSpec)

end Rows
end Go.Proofs.YtbdfjdipjacamaaDoor
