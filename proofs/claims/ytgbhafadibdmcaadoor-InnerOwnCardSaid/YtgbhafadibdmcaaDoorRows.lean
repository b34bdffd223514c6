/-
  NARROWER THAN 'FOR EVERY INPUT', by the rows' own cells (each row's printed sentence says how): FloodPaths: laid · InnerOf: laid · InnerVia: laid · InnerOwn: laid.
  DERIVED. THE GIVEN ROWS OF THIS SEAT. 4 by the template 'for every input the law returns true; each argument reads behind the call as it read before'; 0 by the template 'total and deterministic' (their statements: YtgbhafadibdmcaaDoorTotals.lean).
  GIVEN WITH THE SEED: the statements are not yours to turn. If you find one false, say at which input.
  Laid BY PROGRAM, IN A SANDBOX (cutbox-rows.mjs): the forced cells as the released guide's own fill.sh prints them over the translation 97a8cd4c84a2c5a3… (all of the seat's roots in one cut). By AI agents, Wed Nov 11 2026. No macro, syntax, notation, axiom, sorry.
-/
import Derived.Test.YtgbhafadibdmcaaDoorChecked
import GoSem.Claim
import GoSem.ClaimJoined
import GoSem.ClaimMapViews
import Derived.JoinedTies
import Derived.KernelRfl
namespace Go.Proofs.YtgbhafadibdmcaaDoor
/- THE CELL 'sum', in the pinned program and in every row, IS THE sha256 OF THE DUMP (.gsa) THAT YtgbhafadibdmcaaDoorProg.lean LOADS. Nothing in Lean hashes anything: it is a label: what it is worth is what the hold of that sum in a sandbox is worth. -/
noncomputable def Tryd.pinned : Pinned := { name := "ytgbhafadibdmcaadoor", sum := "97a8cd4c84a2c5a32434e392b54cb6b6c7df390d75783bbddb6a414971bdc244", checked := Tryd.checked }
namespace Rows
def none {H : Type} : Left H := { results := [], args := [] }

/- WHAT THE LISTED PACKAGE-LEVEL VARIABLES READ AS WHEN THE CALL BEGINS. Each datum BY PROGRAM (the guide's laid-datum.mjs) off the statement by which the dump's own 'gosem.cut.vars' lays the variable. In a bare row this is a premise. The card (YtgbhafadibdmcaaDoorCards.lean) ties it to the program's text. -/
def laid_gloaming_geom_steps {H : Type} : DataW H := .agg [.agg [.lit (.int .i64 0), .lit (.int .i64 (-1))], .agg [.lit (.int .i64 1), .lit (.int .i64 0)], .agg [.lit (.int .i64 0), .lit (.int .i64 1)], .agg [.lit (.int .i64 (-1)), .lit (.int .i64 0)]]

/-- 'gloaminglaw08.FloodPaths': WHATEVER THE INPUT: true; the input reads as it did. -/
def floodPathsSpec : ChangeSpec := { name := "floodPaths", fn := fun _ => fun
  | [d1, d2, d3] => { results := [.lit (.bool true)], args := [d1, d2, d3] }
  | _ => none }
def floodPathsRow : OpenClaim := { program := "ytgbhafadibdmcaadoor", sum := "97a8cd4c84a2c5a32434e392b54cb6b6c7df390d75783bbddb6a414971bdc244", func := "gloaming/gloaminglaw08.FloodPaths", spec := "floodPaths", inPlace := ["math/bits.Add64"], unfollowed := true, recurses := true, named := ["gloaming/geom.steps"], apart := false, laid := [("gloaming/geom.steps", laid_gloaming_geom_steps)] }
def FloodPathsSaid : Prop := floodPathsRow.holds Tryd.pinned (OpenSpec.ofChange floodPathsSpec)

/-- ITS FALSE NEIGHBOUR: 'it returns false'. Refute it at one input. -/
def floodPathsWrong : ChangeSpec := { name := "floodPaths", fn := fun _ => fun
  | [d1, d2, d3] => { results := [.lit (.bool false)], args := [d1, d2, d3] }
  | _ => none }
def FloodPathsWrongFalsely : Prop := floodPathsRow.holds Tryd.pinned (OpenSpec.ofChange floodPathsWrong)

/-- 'gloaminglaw13.InnerOf': WHATEVER THE INPUT: true; the input reads as it did. -/
def innerOfSpec : ChangeSpec := { name := "innerOf", fn := fun _ => fun
  | [d1, d2, d3] => { results := [.lit (.bool true)], args := [d1, d2, d3] }
  | _ => none }
def innerOfRow : OpenClaim := { program := "ytgbhafadibdmcaadoor", sum := "97a8cd4c84a2c5a32434e392b54cb6b6c7df390d75783bbddb6a414971bdc244", func := "gloaming/gloaminglaw13.InnerOf", spec := "innerOf", inPlace := ["math/bits.Add64"], unfollowed := true, recurses := true, named := ["gloaming/geom.steps"], apart := false, laid := [("gloaming/geom.steps", laid_gloaming_geom_steps)] }
def InnerOfSaid : Prop := innerOfRow.holds Tryd.pinned (OpenSpec.ofChange innerOfSpec)

/-- ITS FALSE NEIGHBOUR: 'it returns false'. Refute it at one input. -/
def innerOfWrong : ChangeSpec := { name := "innerOf", fn := fun _ => fun
  | [d1, d2, d3] => { results := [.lit (.bool false)], args := [d1, d2, d3] }
  | _ => none }
def InnerOfWrongFalsely : Prop := innerOfRow.holds Tryd.pinned (OpenSpec.ofChange innerOfWrong)

/-- 'gloaminglaw13.InnerVia': WHATEVER THE INPUT: true; the input reads as it did. -/
def innerViaSpec : ChangeSpec := { name := "innerVia", fn := fun _ => fun
  | [d1, d2, d3] => { results := [.lit (.bool true)], args := [d1, d2, d3] }
  | _ => none }
def innerViaRow : OpenClaim := { program := "ytgbhafadibdmcaadoor", sum := "97a8cd4c84a2c5a32434e392b54cb6b6c7df390d75783bbddb6a414971bdc244", func := "gloaming/gloaminglaw13.InnerVia", spec := "innerVia", inPlace := ["math/bits.Add64"], unfollowed := true, recurses := true, named := ["gloaming/geom.steps"], apart := false, laid := [("gloaming/geom.steps", laid_gloaming_geom_steps)] }
def InnerViaSaid : Prop := innerViaRow.holds Tryd.pinned (OpenSpec.ofChange innerViaSpec)

/-- ITS FALSE NEIGHBOUR: 'it returns false'. Refute it at one input. -/
def innerViaWrong : ChangeSpec := { name := "innerVia", fn := fun _ => fun
  | [d1, d2, d3] => { results := [.lit (.bool false)], args := [d1, d2, d3] }
  | _ => none }
def InnerViaWrongFalsely : Prop := innerViaRow.holds Tryd.pinned (OpenSpec.ofChange innerViaWrong)

/-- 'gloaminglaw13.InnerOwn': WHATEVER THE INPUT: true; the input reads as it did. -/
def innerOwnSpec : ChangeSpec := { name := "innerOwn", fn := fun _ => fun
  | [d1, d2, d3] => { results := [.lit (.bool true)], args := [d1, d2, d3] }
  | _ => none }
def innerOwnRow : OpenClaim := { program := "ytgbhafadibdmcaadoor", sum := "97a8cd4c84a2c5a32434e392b54cb6b6c7df390d75783bbddb6a414971bdc244", func := "gloaming/gloaminglaw13.InnerOwn", spec := "innerOwn", inPlace := ["math/bits.Add64"], unfollowed := true, recurses := true, named := ["gloaming/geom.steps"], apart := false, laid := [("gloaming/geom.steps", laid_gloaming_geom_steps)] }
def InnerOwnSaid : Prop := innerOwnRow.holds Tryd.pinned (OpenSpec.ofChange innerOwnSpec)

/-- ITS FALSE NEIGHBOUR: 'it returns false'. Refute it at one input. -/
def innerOwnWrong : ChangeSpec := { name := "innerOwn", fn := fun _ => fun
  | [d1, d2, d3] => { results := [.lit (.bool false)], args := [d1, d2, d3] }
  | _ => none }
def InnerOwnWrongFalsely : Prop := innerOwnRow.holds Tryd.pinned (OpenSpec.ofChange innerOwnWrong)

/- THE SECOND FORM. 'bulk': how many values and letters a reading holds, each counted each time it is reached (what is shared counts as often as it is met; a slice's spare places count too). A statement '..UptoSaid' is the law's where the arguments, and the package variables that the reading takes, are together of bulk at most 1048576: NARROWER than '..Said'. Prove '..Said' where nothing that the law and all that it calls make is longer than what came in: it says more and counts as full. Else prove '..UptoSaid'. A law counts once. -/
mutual
def uptoBulk {H : Type} : DataW H → Nat
  | .lit (.string bytes) => bytes.length + 1
  | .lit _ => 1
  | .nil => 1
  | .ptr d => uptoBulk d + 1
  | .slice elems spare => uptoBulkAll elems + uptoBulkAll spare + 1
  | .agg parts => uptoBulkAll parts + 1
  | .iface _ d => uptoBulk d + 1
  | .map entries => uptoBulkEntries entries + 1
  | .held _ => 1
def uptoBulkAll {H : Type} : List (DataW H) → Nat
  | [] => 0
  | d :: r => uptoBulk d + uptoBulkAll r
def uptoBulkEntries {H : Type} : List (Lit × DataW H) → Nat
  | [] => 0
  | x :: r => uptoBulkEntry x + uptoBulkEntries r
def uptoBulkEntry {H : Type} : Lit × DataW H → Nat
  | (.string bytes, d) => bytes.length + uptoBulk d + 1
  | (_, d) => uptoBulk d + 1
 end
def uptoSmall : (H : Type) → List (DataW H) → Bool := fun _ ds => decide (uptoBulkAll ds ≤ 1048576)
def OpenSpec.upto (s : _root_.Go.ChangeSpec) : _root_.Go.OpenSpec := { _root_.Go.OpenSpec.ofChange s with cond := some uptoSmall }

/-- 'gloaminglaw08.FloodPaths', WHERE WHAT IT READS IS OF BULK AT MOST 1048576: true; the input reads as it did. -/
def floodPathsUptoRow : OpenClaim := { program := "ytgbhafadibdmcaadoor", sum := "97a8cd4c84a2c5a32434e392b54cb6b6c7df390d75783bbddb6a414971bdc244", func := "gloaming/gloaminglaw08.FloodPaths", spec := "floodPaths", inPlace := ["math/bits.Add64"], unfollowed := true, recurses := true, named := ["gloaming/geom.steps"], apart := false, laid := [("gloaming/geom.steps", laid_gloaming_geom_steps)], narrowed := true }
def FloodPathsUptoSaid : Prop := floodPathsUptoRow.holds Tryd.pinned (OpenSpec.upto floodPathsSpec)

/-- 'gloaminglaw13.InnerOf', WHERE WHAT IT READS IS OF BULK AT MOST 1048576: true; the input reads as it did. -/
def innerOfUptoRow : OpenClaim := { program := "ytgbhafadibdmcaadoor", sum := "97a8cd4c84a2c5a32434e392b54cb6b6c7df390d75783bbddb6a414971bdc244", func := "gloaming/gloaminglaw13.InnerOf", spec := "innerOf", inPlace := ["math/bits.Add64"], unfollowed := true, recurses := true, named := ["gloaming/geom.steps"], apart := false, laid := [("gloaming/geom.steps", laid_gloaming_geom_steps)], narrowed := true }
def InnerOfUptoSaid : Prop := innerOfUptoRow.holds Tryd.pinned (OpenSpec.upto innerOfSpec)

/-- 'gloaminglaw13.InnerVia', WHERE WHAT IT READS IS OF BULK AT MOST 1048576: true; the input reads as it did. -/
def innerViaUptoRow : OpenClaim := { program := "ytgbhafadibdmcaadoor", sum := "97a8cd4c84a2c5a32434e392b54cb6b6c7df390d75783bbddb6a414971bdc244", func := "gloaming/gloaminglaw13.InnerVia", spec := "innerVia", inPlace := ["math/bits.Add64"], unfollowed := true, recurses := true, named := ["gloaming/geom.steps"], apart := false, laid := [("gloaming/geom.steps", laid_gloaming_geom_steps)], narrowed := true }
def InnerViaUptoSaid : Prop := innerViaUptoRow.holds Tryd.pinned (OpenSpec.upto innerViaSpec)

/-- 'gloaminglaw13.InnerOwn', WHERE WHAT IT READS IS OF BULK AT MOST 1048576: true; the input reads as it did. -/
def innerOwnUptoRow : OpenClaim := { program := "ytgbhafadibdmcaadoor", sum := "97a8cd4c84a2c5a32434e392b54cb6b6c7df390d75783bbddb6a414971bdc244", func := "gloaming/gloaminglaw13.InnerOwn", spec := "innerOwn", inPlace := ["math/bits.Add64"], unfollowed := true, recurses := true, named := ["gloaming/geom.steps"], apart := false, laid := [("gloaming/geom.steps", laid_gloaming_geom_steps)], narrowed := true }
def InnerOwnUptoSaid : Prop := innerOwnUptoRow.holds Tryd.pinned (OpenSpec.upto innerOwnSpec)

end Rows
end Go.Proofs.YtgbhafadibdmcaaDoor
