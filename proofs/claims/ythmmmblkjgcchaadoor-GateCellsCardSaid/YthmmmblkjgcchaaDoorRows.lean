/-
  NARROWER THAN 'FOR EVERY INPUT', by the rows' own cells (each row's printed sentence says how): GateBetween: laid · GateOf: laid · GateCells: laid · GateRuns: laid · GateStays: laid.
  DERIVED. THE GIVEN ROWS OF THIS SEAT. 5 by the template 'for every input the law returns true; each argument reads behind the call as it read before'; 0 by the template 'total and deterministic' (their statements: YthmmmblkjgcchaaDoorTotals.lean).
  GIVEN WITH THE SEED: the statements are not yours to turn. If you find one false, say at which input.
  Laid BY PROGRAM, IN A SANDBOX (cutbox-rows.mjs): the forced cells as the released guide's own fill.sh prints them over the translation 206cc00a6d9e9766… (all of the seat's roots in one cut). By AI agents, Wed Nov 11 2026. No macro, syntax, notation, axiom, sorry.
-/
import Derived.Test.YthmmmblkjgcchaaDoorChecked
import GoSem.Claim
import GoSem.ClaimJoined
import GoSem.ClaimMapViews
import Derived.JoinedTies
import Derived.KernelRfl
namespace Go.Proofs.YthmmmblkjgcchaaDoor
/- THE CELL 'sum', in the pinned program and in every row, IS THE sha256 OF THE DUMP (.gsa) THAT YthmmmblkjgcchaaDoorProg.lean LOADS. Nothing in Lean hashes anything: it is a label: what it is worth is what the hold of that sum in a sandbox is worth. -/
noncomputable def Tryd.pinned : Pinned := { name := "ythmmmblkjgcchaadoor", sum := "206cc00a6d9e97666dda736441b45464e8b590543eb0ab73b83c0b2da329827a", checked := Tryd.checked }
namespace Rows
def none {H : Type} : Left H := { results := [], args := [] }

/- WHAT THE LISTED PACKAGE-LEVEL VARIABLES READ AS WHEN THE CALL BEGINS. Each datum BY PROGRAM (the guide's laid-datum.mjs) off the statement by which the dump's own 'gosem.cut.vars' lays the variable. In a bare row this is a premise. The card (YthmmmblkjgcchaaDoorCards.lean) ties it to the program's text. -/
def laid_gloaming_geom_steps {H : Type} : DataW H := .agg [.agg [.lit (.int .i64 0), .lit (.int .i64 (-1))], .agg [.lit (.int .i64 1), .lit (.int .i64 0)], .agg [.lit (.int .i64 0), .lit (.int .i64 1)], .agg [.lit (.int .i64 (-1)), .lit (.int .i64 0)]]

/-- 'gloaminglaw12.GateBetween': WHATEVER THE INPUT: true; the input reads as it did. -/
def gateBetweenSpec : ChangeSpec := { name := "gateBetween", fn := fun _ => fun
  | [d1, d2, d3] => { results := [.lit (.bool true)], args := [d1, d2, d3] }
  | _ => none }
def gateBetweenRow : OpenClaim := { program := "ythmmmblkjgcchaadoor", sum := "206cc00a6d9e97666dda736441b45464e8b590543eb0ab73b83c0b2da329827a", func := "gloaming/gloaminglaw12.GateBetween", spec := "gateBetween", unfollowed := true, recurses := true, named := ["gloaming/geom.steps"], apart := false, laid := [("gloaming/geom.steps", laid_gloaming_geom_steps)] }
def GateBetweenSaid : Prop := gateBetweenRow.holds Tryd.pinned (OpenSpec.ofChange gateBetweenSpec)

/-- ITS FALSE NEIGHBOUR: 'it returns false'. Refute it at one input. -/
def gateBetweenWrong : ChangeSpec := { name := "gateBetween", fn := fun _ => fun
  | [d1, d2, d3] => { results := [.lit (.bool false)], args := [d1, d2, d3] }
  | _ => none }
def GateBetweenWrongFalsely : Prop := gateBetweenRow.holds Tryd.pinned (OpenSpec.ofChange gateBetweenWrong)

/-- 'gloaminglaw12.GateOf': WHATEVER THE INPUT: true; the input reads as it did. -/
def gateOfSpec : ChangeSpec := { name := "gateOf", fn := fun _ => fun
  | [d1, d2, d3] => { results := [.lit (.bool true)], args := [d1, d2, d3] }
  | _ => none }
def gateOfRow : OpenClaim := { program := "ythmmmblkjgcchaadoor", sum := "206cc00a6d9e97666dda736441b45464e8b590543eb0ab73b83c0b2da329827a", func := "gloaming/gloaminglaw12.GateOf", spec := "gateOf", unfollowed := true, recurses := true, named := ["gloaming/geom.steps"], apart := false, laid := [("gloaming/geom.steps", laid_gloaming_geom_steps)] }
def GateOfSaid : Prop := gateOfRow.holds Tryd.pinned (OpenSpec.ofChange gateOfSpec)

/-- ITS FALSE NEIGHBOUR: 'it returns false'. Refute it at one input. -/
def gateOfWrong : ChangeSpec := { name := "gateOf", fn := fun _ => fun
  | [d1, d2, d3] => { results := [.lit (.bool false)], args := [d1, d2, d3] }
  | _ => none }
def GateOfWrongFalsely : Prop := gateOfRow.holds Tryd.pinned (OpenSpec.ofChange gateOfWrong)

/-- 'gloaminglaw12.GateCells': WHATEVER THE INPUT: true; the input reads as it did. -/
def gateCellsSpec : ChangeSpec := { name := "gateCells", fn := fun _ => fun
  | [d1, d2, d3] => { results := [.lit (.bool true)], args := [d1, d2, d3] }
  | _ => none }
def gateCellsRow : OpenClaim := { program := "ythmmmblkjgcchaadoor", sum := "206cc00a6d9e97666dda736441b45464e8b590543eb0ab73b83c0b2da329827a", func := "gloaming/gloaminglaw12.GateCells", spec := "gateCells", unfollowed := true, recurses := true, named := ["gloaming/geom.steps"], apart := false, laid := [("gloaming/geom.steps", laid_gloaming_geom_steps)] }
def GateCellsSaid : Prop := gateCellsRow.holds Tryd.pinned (OpenSpec.ofChange gateCellsSpec)

/-- ITS FALSE NEIGHBOUR: 'it returns false'. Refute it at one input. -/
def gateCellsWrong : ChangeSpec := { name := "gateCells", fn := fun _ => fun
  | [d1, d2, d3] => { results := [.lit (.bool false)], args := [d1, d2, d3] }
  | _ => none }
def GateCellsWrongFalsely : Prop := gateCellsRow.holds Tryd.pinned (OpenSpec.ofChange gateCellsWrong)

/-- 'gloaminglaw12.GateRuns': WHATEVER THE INPUT: true; the input reads as it did. -/
def gateRunsSpec : ChangeSpec := { name := "gateRuns", fn := fun _ => fun
  | [d1, d2, d3] => { results := [.lit (.bool true)], args := [d1, d2, d3] }
  | _ => none }
def gateRunsRow : OpenClaim := { program := "ythmmmblkjgcchaadoor", sum := "206cc00a6d9e97666dda736441b45464e8b590543eb0ab73b83c0b2da329827a", func := "gloaming/gloaminglaw12.GateRuns", spec := "gateRuns", unfollowed := true, recurses := true, named := ["gloaming/geom.steps"], apart := false, laid := [("gloaming/geom.steps", laid_gloaming_geom_steps)] }
def GateRunsSaid : Prop := gateRunsRow.holds Tryd.pinned (OpenSpec.ofChange gateRunsSpec)

/-- ITS FALSE NEIGHBOUR: 'it returns false'. Refute it at one input. -/
def gateRunsWrong : ChangeSpec := { name := "gateRuns", fn := fun _ => fun
  | [d1, d2, d3] => { results := [.lit (.bool false)], args := [d1, d2, d3] }
  | _ => none }
def GateRunsWrongFalsely : Prop := gateRunsRow.holds Tryd.pinned (OpenSpec.ofChange gateRunsWrong)

/-- 'gloaminglaw12.GateStays': WHATEVER THE INPUT: true; the input reads as it did. -/
def gateStaysSpec : ChangeSpec := { name := "gateStays", fn := fun _ => fun
  | [d1, d2, d3] => { results := [.lit (.bool true)], args := [d1, d2, d3] }
  | _ => none }
def gateStaysRow : OpenClaim := { program := "ythmmmblkjgcchaadoor", sum := "206cc00a6d9e97666dda736441b45464e8b590543eb0ab73b83c0b2da329827a", func := "gloaming/gloaminglaw12.GateStays", spec := "gateStays", unfollowed := true, recurses := true, named := ["gloaming/geom.steps"], apart := false, laid := [("gloaming/geom.steps", laid_gloaming_geom_steps)] }
def GateStaysSaid : Prop := gateStaysRow.holds Tryd.pinned (OpenSpec.ofChange gateStaysSpec)

/-- ITS FALSE NEIGHBOUR: 'it returns false'. Refute it at one input. -/
def gateStaysWrong : ChangeSpec := { name := "gateStays", fn := fun _ => fun
  | [d1, d2, d3] => { results := [.lit (.bool false)], args := [d1, d2, d3] }
  | _ => none }
def GateStaysWrongFalsely : Prop := gateStaysRow.holds Tryd.pinned (OpenSpec.ofChange gateStaysWrong)

/- THE SECOND FORM. 'bulk': how many values and letters a reading holds, each counted each time it is reached (what is shared counts as often as it is met; a slice's spare places count too). A statement '..UptoSaid' is the law's where the arguments, and the package variables that the reading takes, are together of bulk at most 1048576: NARROWER than '..Said'. Prove '..Said' where nothing that the law and all that it calls make is longer than what came in: it says more and counts as full. Else prove '..UptoSaid'. A law counts once. -/
mutual
def uptoBulk {H : Type} : DataW H → Nat
  | .lit (.string bytes) => bytes.length + 1
  | .lit _ => 1
  | .nil => 1
  | .ptr d => uptoBulk d + 1
  | .slice elems spare => uptoBulkAll elems + uptoBulkAll spare + 1
  | .agg parts => uptoBulkAll parts + 1
  | .iface _ d => uptoBulk d + 1
  | .map entries => uptoBulkEntries entries + 1
  | .held _ => 1
def uptoBulkAll {H : Type} : List (DataW H) → Nat
  | [] => 0
  | d :: r => uptoBulk d + uptoBulkAll r
def uptoBulkEntries {H : Type} : List (Lit × DataW H) → Nat
  | [] => 0
  | x :: r => uptoBulkEntry x + uptoBulkEntries r
def uptoBulkEntry {H : Type} : Lit × DataW H → Nat
  | (.string bytes, d) => bytes.length + uptoBulk d + 1
  | (_, d) => uptoBulk d + 1
 end
def uptoSmall : (H : Type) → List (DataW H) → Bool := fun _ ds => decide (uptoBulkAll ds ≤ 1048576)
def OpenSpec.upto (s : _root_.Go.ChangeSpec) : _root_.Go.OpenSpec := { _root_.Go.OpenSpec.ofChange s with cond := some uptoSmall }

/-- 'gloaminglaw12.GateBetween', WHERE WHAT IT READS IS OF BULK AT MOST 1048576: true; the input reads as it did. -/
def gateBetweenUptoRow : OpenClaim := { program := "ythmmmblkjgcchaadoor", sum := "206cc00a6d9e97666dda736441b45464e8b590543eb0ab73b83c0b2da329827a", func := "gloaming/gloaminglaw12.GateBetween", spec := "gateBetween", unfollowed := true, recurses := true, named := ["gloaming/geom.steps"], apart := false, laid := [("gloaming/geom.steps", laid_gloaming_geom_steps)], narrowed := true }
def GateBetweenUptoSaid : Prop := gateBetweenUptoRow.holds Tryd.pinned (OpenSpec.upto gateBetweenSpec)

/-- 'gloaminglaw12.GateOf', WHERE WHAT IT READS IS OF BULK AT MOST 1048576: true; the input reads as it did. -/
def gateOfUptoRow : OpenClaim := { program := "ythmmmblkjgcchaadoor", sum := "206cc00a6d9e97666dda736441b45464e8b590543eb0ab73b83c0b2da329827a", func := "gloaming/gloaminglaw12.GateOf", spec := "gateOf", unfollowed := true, recurses := true, named := ["gloaming/geom.steps"], apart := false, laid := [("gloaming/geom.steps", laid_gloaming_geom_steps)], narrowed := true }
def GateOfUptoSaid : Prop := gateOfUptoRow.holds Tryd.pinned (OpenSpec.upto gateOfSpec)

/-- 'gloaminglaw12.GateCells', WHERE WHAT IT READS IS OF BULK AT MOST 1048576: true; the input reads as it did. -/
def gateCellsUptoRow : OpenClaim := { program := "ythmmmblkjgcchaadoor", sum := "206cc00a6d9e97666dda736441b45464e8b590543eb0ab73b83c0b2da329827a", func := "gloaming/gloaminglaw12.GateCells", spec := "gateCells", unfollowed := true, recurses := true, named := ["gloaming/geom.steps"], apart := false, laid := [("gloaming/geom.steps", laid_gloaming_geom_steps)], narrowed := true }
def GateCellsUptoSaid : Prop := gateCellsUptoRow.holds Tryd.pinned (OpenSpec.upto gateCellsSpec)

/-- 'gloaminglaw12.GateRuns', WHERE WHAT IT READS IS OF BULK AT MOST 1048576: true; the input reads as it did. -/
def gateRunsUptoRow : OpenClaim := { program := "ythmmmblkjgcchaadoor", sum := "206cc00a6d9e97666dda736441b45464e8b590543eb0ab73b83c0b2da329827a", func := "gloaming/gloaminglaw12.GateRuns", spec := "gateRuns", unfollowed := true, recurses := true, named := ["gloaming/geom.steps"], apart := false, laid := [("gloaming/geom.steps", laid_gloaming_geom_steps)], narrowed := true }
def GateRunsUptoSaid : Prop := gateRunsUptoRow.holds Tryd.pinned (OpenSpec.upto gateRunsSpec)

/-- 'gloaminglaw12.GateStays', WHERE WHAT IT READS IS OF BULK AT MOST 1048576: true; the input reads as it did. -/
def gateStaysUptoRow : OpenClaim := { program := "ythmmmblkjgcchaadoor", sum := "206cc00a6d9e97666dda736441b45464e8b590543eb0ab73b83c0b2da329827a", func := "gloaming/gloaminglaw12.GateStays", spec := "gateStays", unfollowed := true, recurses := true, named := ["gloaming/geom.steps"], apart := false, laid := [("gloaming/geom.steps", laid_gloaming_geom_steps)], narrowed := true }
def GateStaysUptoSaid : Prop := gateStaysUptoRow.holds Tryd.pinned (OpenSpec.upto gateStaysSpec)

end Rows
end Go.Proofs.YthmmmblkjgcchaaDoor
