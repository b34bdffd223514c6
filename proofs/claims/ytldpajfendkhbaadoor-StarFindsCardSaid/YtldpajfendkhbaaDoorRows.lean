/-
  NARROWER THAN 'FOR EVERY INPUT', by the rows' own cells (each row's printed sentence says how): StarFinds: laid · StarLeast: laid · StarBudget: laid · StarSettles: laid · StarOwn: laid · StarMore: laid.
  DERIVED. THE GIVEN ROWS OF THIS SEAT. 6 by the template 'for every input the law returns true; each argument reads behind the call as it read before'; 0 by the template 'total and deterministic' (their statements: YtldpajfendkhbaaDoorTotals.lean).
  GIVEN WITH THE SEED: the statements are not yours to turn. If you find one false, say at which input.
  Laid BY PROGRAM, IN A SANDBOX (cutbox-rows.mjs): the forced cells as the released guide's own fill.sh prints them over the translation c957f8d8b98975aa… (all of the seat's roots in one cut). By AI agents, Wed Nov 11 2026. No macro, syntax, notation, axiom, sorry.
-/
import Derived.Test.YtldpajfendkhbaaDoorChecked
import GoSem.Claim
import GoSem.ClaimJoined
import GoSem.ClaimMapViews
import Derived.JoinedTies
import Derived.KernelRfl
namespace Go.Proofs.YtldpajfendkhbaaDoor
/- THE CELL 'sum', in the pinned program and in every row, IS THE sha256 OF THE DUMP (.gsa) THAT YtldpajfendkhbaaDoorProg.lean LOADS. Nothing in Lean hashes anything: it is a label: what it is worth is what the hold of that sum in a sandbox is worth. -/
noncomputable def Tryd.pinned : Pinned := { name := "ytldpajfendkhbaadoor", sum := "c957f8d8b98975aa51ccacab0ff29caa1c1b04e18cd79cccb5778e169af9f82f", checked := Tryd.checked }
namespace Rows
def none {H : Type} : Left H := { results := [], args := [] }

/- WHAT THE LISTED PACKAGE-LEVEL VARIABLES READ AS WHEN THE CALL BEGINS. Each datum BY PROGRAM (the guide's laid-datum.mjs) off the statement by which the dump's own 'gosem.cut.vars' lays the variable. In a bare row this is a premise. The card (YtldpajfendkhbaaDoorCards.lean) ties it to the program's text. -/
def laid_gloaming_geom_steps {H : Type} : DataW H := .agg [.agg [.lit (.int .i64 0), .lit (.int .i64 (-1))], .agg [.lit (.int .i64 1), .lit (.int .i64 0)], .agg [.lit (.int .i64 0), .lit (.int .i64 1)], .agg [.lit (.int .i64 (-1)), .lit (.int .i64 0)]]

/-- 'gloaminglaw10.StarFinds': WHATEVER THE INPUT: true; the input reads as it did. -/
def starFindsSpec : ChangeSpec := { name := "starFinds", fn := fun _ => fun
  | [d1, d2] => { results := [.lit (.bool true)], args := [d1, d2] }
  | _ => none }
def starFindsRow : OpenClaim := { program := "ytldpajfendkhbaadoor", sum := "c957f8d8b98975aa51ccacab0ff29caa1c1b04e18cd79cccb5778e169af9f82f", func := "gloaming/gloaminglaw10.StarFinds", spec := "starFinds", unfollowed := true, recurses := true, named := ["gloaming/geom.steps"], plainKeys := false, apart := false, laid := [("gloaming/geom.steps", laid_gloaming_geom_steps)] }
def StarFindsSaid : Prop := starFindsRow.holds Tryd.pinned (OpenSpec.ofChange starFindsSpec)

/-- ITS FALSE NEIGHBOUR: 'it returns false'. Refute it at one input. -/
def starFindsWrong : ChangeSpec := { name := "starFinds", fn := fun _ => fun
  | [d1, d2] => { results := [.lit (.bool false)], args := [d1, d2] }
  | _ => none }
def StarFindsWrongFalsely : Prop := starFindsRow.holds Tryd.pinned (OpenSpec.ofChange starFindsWrong)

/-- 'gloaminglaw10.StarLeast': WHATEVER THE INPUT: true; the input reads as it did. -/
def starLeastSpec : ChangeSpec := { name := "starLeast", fn := fun _ => fun
  | [d1, d2] => { results := [.lit (.bool true)], args := [d1, d2] }
  | _ => none }
def starLeastRow : OpenClaim := { program := "ytldpajfendkhbaadoor", sum := "c957f8d8b98975aa51ccacab0ff29caa1c1b04e18cd79cccb5778e169af9f82f", func := "gloaming/gloaminglaw10.StarLeast", spec := "starLeast", inPlace := ["math/bits.Add64"], unfollowed := true, recurses := true, named := ["gloaming/geom.steps"], plainKeys := false, apart := false, laid := [("gloaming/geom.steps", laid_gloaming_geom_steps)] }
def StarLeastSaid : Prop := starLeastRow.holds Tryd.pinned (OpenSpec.ofChange starLeastSpec)

/-- ITS FALSE NEIGHBOUR: 'it returns false'. Refute it at one input. -/
def starLeastWrong : ChangeSpec := { name := "starLeast", fn := fun _ => fun
  | [d1, d2] => { results := [.lit (.bool false)], args := [d1, d2] }
  | _ => none }
def StarLeastWrongFalsely : Prop := starLeastRow.holds Tryd.pinned (OpenSpec.ofChange starLeastWrong)

/-- 'gloaminglaw10.StarBudget': WHATEVER THE INPUT: true; the input reads as it did. -/
def starBudgetSpec : ChangeSpec := { name := "starBudget", fn := fun _ => fun
  | [d1, d2] => { results := [.lit (.bool true)], args := [d1, d2] }
  | _ => none }
def starBudgetRow : OpenClaim := { program := "ytldpajfendkhbaadoor", sum := "c957f8d8b98975aa51ccacab0ff29caa1c1b04e18cd79cccb5778e169af9f82f", func := "gloaming/gloaminglaw10.StarBudget", spec := "starBudget", unfollowed := true, recurses := true, named := ["gloaming/geom.steps"], plainKeys := false, apart := false, laid := [("gloaming/geom.steps", laid_gloaming_geom_steps)] }
def StarBudgetSaid : Prop := starBudgetRow.holds Tryd.pinned (OpenSpec.ofChange starBudgetSpec)

/-- ITS FALSE NEIGHBOUR: 'it returns false'. Refute it at one input. -/
def starBudgetWrong : ChangeSpec := { name := "starBudget", fn := fun _ => fun
  | [d1, d2] => { results := [.lit (.bool false)], args := [d1, d2] }
  | _ => none }
def StarBudgetWrongFalsely : Prop := starBudgetRow.holds Tryd.pinned (OpenSpec.ofChange starBudgetWrong)

/-- 'gloaminglaw10.StarSettles': WHATEVER THE INPUT: true; the input reads as it did. -/
def starSettlesSpec : ChangeSpec := { name := "starSettles", fn := fun _ => fun
  | [d1, d2] => { results := [.lit (.bool true)], args := [d1, d2] }
  | _ => none }
def starSettlesRow : OpenClaim := { program := "ytldpajfendkhbaadoor", sum := "c957f8d8b98975aa51ccacab0ff29caa1c1b04e18cd79cccb5778e169af9f82f", func := "gloaming/gloaminglaw10.StarSettles", spec := "starSettles", inPlace := ["math/bits.Add64"], unfollowed := true, recurses := true, named := ["gloaming/geom.steps"], plainKeys := false, apart := false, laid := [("gloaming/geom.steps", laid_gloaming_geom_steps)] }
def StarSettlesSaid : Prop := starSettlesRow.holds Tryd.pinned (OpenSpec.ofChange starSettlesSpec)

/-- ITS FALSE NEIGHBOUR: 'it returns false'. Refute it at one input. -/
def starSettlesWrong : ChangeSpec := { name := "starSettles", fn := fun _ => fun
  | [d1, d2] => { results := [.lit (.bool false)], args := [d1, d2] }
  | _ => none }
def StarSettlesWrongFalsely : Prop := starSettlesRow.holds Tryd.pinned (OpenSpec.ofChange starSettlesWrong)

/-- 'gloaminglaw10.StarOwn': WHATEVER THE INPUT: true; the input reads as it did. -/
def starOwnSpec : ChangeSpec := { name := "starOwn", fn := fun _ => fun
  | [d1, d2] => { results := [.lit (.bool true)], args := [d1, d2] }
  | _ => none }
def starOwnRow : OpenClaim := { program := "ytldpajfendkhbaadoor", sum := "c957f8d8b98975aa51ccacab0ff29caa1c1b04e18cd79cccb5778e169af9f82f", func := "gloaming/gloaminglaw10.StarOwn", spec := "starOwn", unfollowed := true, recurses := true, named := ["gloaming/geom.steps"], plainKeys := false, apart := false, laid := [("gloaming/geom.steps", laid_gloaming_geom_steps)] }
def StarOwnSaid : Prop := starOwnRow.holds Tryd.pinned (OpenSpec.ofChange starOwnSpec)

/-- ITS FALSE NEIGHBOUR: 'it returns false'. Refute it at one input. -/
def starOwnWrong : ChangeSpec := { name := "starOwn", fn := fun _ => fun
  | [d1, d2] => { results := [.lit (.bool false)], args := [d1, d2] }
  | _ => none }
def StarOwnWrongFalsely : Prop := starOwnRow.holds Tryd.pinned (OpenSpec.ofChange starOwnWrong)

/-- 'gloaminglaw10.StarMore': WHATEVER THE INPUT: true; the input reads as it did. -/
def starMoreSpec : ChangeSpec := { name := "starMore", fn := fun _ => fun
  | [d1, d2, d3] => { results := [.lit (.bool true)], args := [d1, d2, d3] }
  | _ => none }
def starMoreRow : OpenClaim := { program := "ytldpajfendkhbaadoor", sum := "c957f8d8b98975aa51ccacab0ff29caa1c1b04e18cd79cccb5778e169af9f82f", func := "gloaming/gloaminglaw10.StarMore", spec := "starMore", unfollowed := true, recurses := true, named := ["gloaming/geom.steps"], plainKeys := false, apart := false, laid := [("gloaming/geom.steps", laid_gloaming_geom_steps)] }
def StarMoreSaid : Prop := starMoreRow.holds Tryd.pinned (OpenSpec.ofChange starMoreSpec)

/-- ITS FALSE NEIGHBOUR: 'it returns false'. Refute it at one input. -/
def starMoreWrong : ChangeSpec := { name := "starMore", fn := fun _ => fun
  | [d1, d2, d3] => { results := [.lit (.bool false)], args := [d1, d2, d3] }
  | _ => none }
def StarMoreWrongFalsely : Prop := starMoreRow.holds Tryd.pinned (OpenSpec.ofChange starMoreWrong)

/- THE SECOND FORM. 'bulk': how many values and letters a reading holds, each counted each time it is reached (what is shared counts as often as it is met; a slice's spare places count too). A statement '..UptoSaid' is the law's where the arguments, and the package variables that the reading takes, are together of bulk at most 1048576: NARROWER than '..Said'. Prove '..Said' where nothing that the law and all that it calls make is longer than what came in: it says more and counts as full. Else prove '..UptoSaid'. A law counts once. -/
mutual
def uptoBulk {H : Type} : DataW H → Nat
  | .lit (.string bytes) => bytes.length + 1
  | .lit _ => 1
  | .nil => 1
  | .ptr d => uptoBulk d + 1
  | .slice elems spare => uptoBulkAll elems + uptoBulkAll spare + 1
  | .agg parts => uptoBulkAll parts + 1
  | .iface _ d => uptoBulk d + 1
  | .map entries => uptoBulkEntries entries + 1
  | .held _ => 1
def uptoBulkAll {H : Type} : List (DataW H) → Nat
  | [] => 0
  | d :: r => uptoBulk d + uptoBulkAll r
def uptoBulkEntries {H : Type} : List (Lit × DataW H) → Nat
  | [] => 0
  | x :: r => uptoBulkEntry x + uptoBulkEntries r
def uptoBulkEntry {H : Type} : Lit × DataW H → Nat
  | (.string bytes, d) => bytes.length + uptoBulk d + 1
  | (_, d) => uptoBulk d + 1
 end
def uptoSmall : (H : Type) → List (DataW H) → Bool := fun _ ds => decide (uptoBulkAll ds ≤ 1048576)
def OpenSpec.upto (s : _root_.Go.ChangeSpec) : _root_.Go.OpenSpec := { _root_.Go.OpenSpec.ofChange s with cond := some uptoSmall }

/-- 'gloaminglaw10.StarFinds', WHERE WHAT IT READS IS OF BULK AT MOST 1048576: true; the input reads as it did. -/
def starFindsUptoRow : OpenClaim := { program := "ytldpajfendkhbaadoor", sum := "c957f8d8b98975aa51ccacab0ff29caa1c1b04e18cd79cccb5778e169af9f82f", func := "gloaming/gloaminglaw10.StarFinds", spec := "starFinds", unfollowed := true, recurses := true, named := ["gloaming/geom.steps"], plainKeys := false, apart := false, laid := [("gloaming/geom.steps", laid_gloaming_geom_steps)], narrowed := true }
def StarFindsUptoSaid : Prop := starFindsUptoRow.holds Tryd.pinned (OpenSpec.upto starFindsSpec)

/-- 'gloaminglaw10.StarLeast', WHERE WHAT IT READS IS OF BULK AT MOST 1048576: true; the input reads as it did. -/
def starLeastUptoRow : OpenClaim := { program := "ytldpajfendkhbaadoor", sum := "c957f8d8b98975aa51ccacab0ff29caa1c1b04e18cd79cccb5778e169af9f82f", func := "gloaming/gloaminglaw10.StarLeast", spec := "starLeast", inPlace := ["math/bits.Add64"], unfollowed := true, recurses := true, named := ["gloaming/geom.steps"], plainKeys := false, apart := false, laid := [("gloaming/geom.steps", laid_gloaming_geom_steps)], narrowed := true }
def StarLeastUptoSaid : Prop := starLeastUptoRow.holds Tryd.pinned (OpenSpec.upto starLeastSpec)

/-- 'gloaminglaw10.StarBudget', WHERE WHAT IT READS IS OF BULK AT MOST 1048576: true; the input reads as it did. -/
def starBudgetUptoRow : OpenClaim := { program := "ytldpajfendkhbaadoor", sum := "c957f8d8b98975aa51ccacab0ff29caa1c1b04e18cd79cccb5778e169af9f82f", func := "gloaming/gloaminglaw10.StarBudget", spec := "starBudget", unfollowed := true, recurses := true, named := ["gloaming/geom.steps"], plainKeys := false, apart := false, laid := [("gloaming/geom.steps", laid_gloaming_geom_steps)], narrowed := true }
def StarBudgetUptoSaid : Prop := starBudgetUptoRow.holds Tryd.pinned (OpenSpec.upto starBudgetSpec)

/-- 'gloaminglaw10.StarSettles', WHERE WHAT IT READS IS OF BULK AT MOST 1048576: true; the input reads as it did. -/
def starSettlesUptoRow : OpenClaim := { program := "ytldpajfendkhbaadoor", sum := "c957f8d8b98975aa51ccacab0ff29caa1c1b04e18cd79cccb5778e169af9f82f", func := "gloaming/gloaminglaw10.StarSettles", spec := "starSettles", inPlace := ["math/bits.Add64"], unfollowed := true, recurses := true, named := ["gloaming/geom.steps"], plainKeys := false, apart := false, laid := [("gloaming/geom.steps", laid_gloaming_geom_steps)], narrowed := true }
def StarSettlesUptoSaid : Prop := starSettlesUptoRow.holds Tryd.pinned (OpenSpec.upto starSettlesSpec)

/-- 'gloaminglaw10.StarOwn', WHERE WHAT IT READS IS OF BULK AT MOST 1048576: true; the input reads as it did. -/
def starOwnUptoRow : OpenClaim := { program := "ytldpajfendkhbaadoor", sum := "c957f8d8b98975aa51ccacab0ff29caa1c1b04e18cd79cccb5778e169af9f82f", func := "gloaming/gloaminglaw10.StarOwn", spec := "starOwn", unfollowed := true, recurses := true, named := ["gloaming/geom.steps"], plainKeys := false, apart := false, laid := [("gloaming/geom.steps", laid_gloaming_geom_steps)], narrowed := true }
def StarOwnUptoSaid : Prop := starOwnUptoRow.holds Tryd.pinned (OpenSpec.upto starOwnSpec)

/-- 'gloaminglaw10.StarMore', WHERE WHAT IT READS IS OF BULK AT MOST 1048576: true; the input reads as it did. -/
def starMoreUptoRow : OpenClaim := { program := "ytldpajfendkhbaadoor", sum := "c957f8d8b98975aa51ccacab0ff29caa1c1b04e18cd79cccb5778e169af9f82f", func := "gloaming/gloaminglaw10.StarMore", spec := "starMore", unfollowed := true, recurses := true, named := ["gloaming/geom.steps"], plainKeys := false, apart := false, laid := [("gloaming/geom.steps", laid_gloaming_geom_steps)], narrowed := true }
def StarMoreUptoSaid : Prop := starMoreUptoRow.holds Tryd.pinned (OpenSpec.upto starMoreSpec)

end Rows
end Go.Proofs.YtldpajfendkhbaaDoor
