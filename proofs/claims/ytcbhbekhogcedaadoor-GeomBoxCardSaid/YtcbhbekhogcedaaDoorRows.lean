/-
  NARROWER THAN 'FOR EVERY INPUT', by the rows' own cells (each row's printed sentence says how): GeomBox: laid · GeomFits: laid.
  DERIVED. THE GIVEN ROWS OF THIS SEAT. 2 by the template 'for every input the law returns true; each argument reads behind the call as it read before'; 0 by the template 'total and deterministic' (their statements: YtcbhbekhogcedaaDoorTotals.lean).
  GIVEN WITH THE SEED: the statements are not yours to turn. If you find one false, say at which input.
  Laid BY PROGRAM, IN A SANDBOX (cutbox-rows.mjs): the forced cells as the released guide's own fill.sh prints them over the translation 9263826ca25fcdb6… (all of the seat's roots in one cut). By AI agents, Wed Nov 11 2026. No macro, syntax, notation, axiom, sorry.
-/
import Derived.Test.YtcbhbekhogcedaaDoorChecked
import GoSem.Claim
import GoSem.ClaimJoined
import GoSem.ClaimMapViews
import Derived.JoinedTies
import Derived.KernelRfl
namespace Go.Proofs.YtcbhbekhogcedaaDoor
/- THE CELL 'sum', in the pinned program and in every row, IS THE sha256 OF THE DUMP (.gsa) THAT YtcbhbekhogcedaaDoorProg.lean LOADS. Nothing in Lean hashes anything: it is a label: what it is worth is what the hold of that sum in a sandbox is worth. -/
noncomputable def Tryd.pinned : Pinned := { name := "ytcbhbekhogcedaadoor", sum := "9263826ca25fcdb62fd42cde5e47074ef81f692d98dadf7fa7539da6307f79c3", checked := Tryd.checked }
namespace Rows
def none {H : Type} : Left H := { results := [], args := [] }

/- WHAT THE LISTED PACKAGE-LEVEL VARIABLES READ AS WHEN THE CALL BEGINS. Each datum BY PROGRAM (the guide's laid-datum.mjs) off the statement by which the dump's own 'gosem.cut.vars' lays the variable. In a bare row this is a premise. The card (YtcbhbekhogcedaaDoorCards.lean) ties it to the program's text. -/
def laid_gloaming_geom_steps {H : Type} : DataW H := .agg [.agg [.lit (.int .i64 0), .lit (.int .i64 (-1))], .agg [.lit (.int .i64 1), .lit (.int .i64 0)], .agg [.lit (.int .i64 0), .lit (.int .i64 1)], .agg [.lit (.int .i64 (-1)), .lit (.int .i64 0)]]

/-- 'gloaminglaw01.GeomBox': WHATEVER THE INPUT: true; the input reads as it did. -/
def geomBoxSpec : ChangeSpec := { name := "geomBox", fn := fun _ => fun
  | [d1, d2, d3] => { results := [.lit (.bool true)], args := [d1, d2, d3] }
  | _ => none }
def geomBoxRow : OpenClaim := { program := "ytcbhbekhogcedaadoor", sum := "9263826ca25fcdb62fd42cde5e47074ef81f692d98dadf7fa7539da6307f79c3", func := "gloaming/gloaminglaw01.GeomBox", spec := "geomBox", unfollowed := true, recurses := true, named := ["gloaming/geom.steps"], apart := false, laid := [("gloaming/geom.steps", laid_gloaming_geom_steps)] }
def GeomBoxSaid : Prop := geomBoxRow.holds Tryd.pinned (OpenSpec.ofChange geomBoxSpec)

/-- ITS FALSE NEIGHBOUR: 'it returns false'. Refute it at one input. -/
def geomBoxWrong : ChangeSpec := { name := "geomBox", fn := fun _ => fun
  | [d1, d2, d3] => { results := [.lit (.bool false)], args := [d1, d2, d3] }
  | _ => none }
def GeomBoxWrongFalsely : Prop := geomBoxRow.holds Tryd.pinned (OpenSpec.ofChange geomBoxWrong)

/-- 'gloaminglaw01.GeomFits': WHATEVER THE INPUT: true; the input reads as it did. -/
def geomFitsSpec : ChangeSpec := { name := "geomFits", fn := fun _ => fun
  | [d1, d2, d3] => { results := [.lit (.bool true)], args := [d1, d2, d3] }
  | _ => none }
def geomFitsRow : OpenClaim := { program := "ytcbhbekhogcedaadoor", sum := "9263826ca25fcdb62fd42cde5e47074ef81f692d98dadf7fa7539da6307f79c3", func := "gloaming/gloaminglaw01.GeomFits", spec := "geomFits", unfollowed := true, recurses := true, named := ["gloaming/geom.steps"], apart := false, laid := [("gloaming/geom.steps", laid_gloaming_geom_steps)] }
def GeomFitsSaid : Prop := geomFitsRow.holds Tryd.pinned (OpenSpec.ofChange geomFitsSpec)

/-- ITS FALSE NEIGHBOUR: 'it returns false'. Refute it at one input. -/
def geomFitsWrong : ChangeSpec := { name := "geomFits", fn := fun _ => fun
  | [d1, d2, d3] => { results := [.lit (.bool false)], args := [d1, d2, d3] }
  | _ => none }
def GeomFitsWrongFalsely : Prop := geomFitsRow.holds Tryd.pinned (OpenSpec.ofChange geomFitsWrong)

/- THE SECOND FORM. 'bulk': how many values and letters a reading holds, each counted each time it is reached (what is shared counts as often as it is met; a slice's spare places count too). A statement '..UptoSaid' is the law's where the arguments, and the package variables that the reading takes, are together of bulk at most 1048576: NARROWER than '..Said'. Prove '..Said' where nothing that the law and all that it calls make is longer than what came in: it says more and counts as full. Else prove '..UptoSaid'. A law counts once. -/
mutual
def uptoBulk {H : Type} : DataW H → Nat
  | .lit (.string bytes) => bytes.length + 1
  | .lit _ => 1
  | .nil => 1
  | .ptr d => uptoBulk d + 1
  | .slice elems spare => uptoBulkAll elems + uptoBulkAll spare + 1
  | .agg parts => uptoBulkAll parts + 1
  | .iface _ d => uptoBulk d + 1
  | .map entries => uptoBulkEntries entries + 1
  | .held _ => 1
def uptoBulkAll {H : Type} : List (DataW H) → Nat
  | [] => 0
  | d :: r => uptoBulk d + uptoBulkAll r
def uptoBulkEntries {H : Type} : List (Lit × DataW H) → Nat
  | [] => 0
  | x :: r => uptoBulkEntry x + uptoBulkEntries r
def uptoBulkEntry {H : Type} : Lit × DataW H → Nat
  | (.string bytes, d) => bytes.length + uptoBulk d + 1
  | (_, d) => uptoBulk d + 1
 end
def uptoSmall : (H : Type) → List (DataW H) → Bool := fun _ ds => decide (uptoBulkAll ds ≤ 1048576)
def OpenSpec.upto (s : _root_.Go.ChangeSpec) : _root_.Go.OpenSpec := { _root_.Go.OpenSpec.ofChange s with cond := some uptoSmall }

/-- 'gloaminglaw01.GeomBox', WHERE WHAT IT READS IS OF BULK AT MOST 1048576: true; the input reads as it did. -/
def geomBoxUptoRow : OpenClaim := { program := "ytcbhbekhogcedaadoor", sum := "9263826ca25fcdb62fd42cde5e47074ef81f692d98dadf7fa7539da6307f79c3", func := "gloaming/gloaminglaw01.GeomBox", spec := "geomBox", unfollowed := true, recurses := true, named := ["gloaming/geom.steps"], apart := false, laid := [("gloaming/geom.steps", laid_gloaming_geom_steps)], narrowed := true }
def GeomBoxUptoSaid : Prop := geomBoxUptoRow.holds Tryd.pinned (OpenSpec.upto geomBoxSpec)

/-- 'gloaminglaw01.GeomFits', WHERE WHAT IT READS IS OF BULK AT MOST 1048576: true; the input reads as it did. -/
def geomFitsUptoRow : OpenClaim := { program := "ytcbhbekhogcedaadoor", sum := "9263826ca25fcdb62fd42cde5e47074ef81f692d98dadf7fa7539da6307f79c3", func := "gloaming/gloaminglaw01.GeomFits", spec := "geomFits", unfollowed := true, recurses := true, named := ["gloaming/geom.steps"], apart := false, laid := [("gloaming/geom.steps", laid_gloaming_geom_steps)], narrowed := true }
def GeomFitsUptoSaid : Prop := geomFitsUptoRow.holds Tryd.pinned (OpenSpec.upto geomFitsSpec)

end Rows
end Go.Proofs.YtcbhbekhogcedaaDoor
