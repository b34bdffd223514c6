/-
  No cell of these rows narrows 'for every input' (looked for: loops, veiled, ifaces, maps, wideKeys, modest, calm, conditions, laid).
  DERIVED. THE GIVEN ROWS OF THIS SEAT. 6 by the template 'for every input the law returns true; each argument reads behind the call as it read before'; 0 by the template 'total and deterministic' (their statements: YtgkeifjnnpcleaaTotals.lean).
  GIVEN WITH THE SEED: the statements are not yours to turn. If you find one false, say at which input.
  Laid BY PROGRAM, IN A SANDBOX (cutbox-rows.mjs): the forced cells as the released guide's own fill.sh prints them over the translation 603b2b8af28a35dd… (all of the seat's roots in one cut). By AI agents, Wed Nov 11 2026. No macro, syntax, notation, axiom, sorry.
-/
import Derived.Test.YtgkeifjnnpcleaaChecked
import GoSem.Claim
import GoSem.ClaimJoined
import GoSem.ClaimMapViews
import Derived.JoinedTies
import Derived.KernelRfl
namespace Go.Proofs.Ytgkeifjnnpcleaa
/- THE CELL 'sum', in the pinned program and in every row, IS THE sha256 OF THE DUMP (.gsa) THAT YtgkeifjnnpcleaaProg.lean LOADS. Nothing in Lean hashes anything: it is a label: what it is worth is what the hold of that sum in a sandbox is worth. -/
noncomputable def Try.pinned : Pinned := { name := "ytgkeifjnnpcleaa", sum := "603b2b8af28a35dd07d93d2db86bf90f64c1206647c00a98afccaf07c2fbd659", checked := Try.checked }
namespace Rows
def none {H : Type} : Left H := { results := [], args := [] }

/-- 'gloaminglaw02.MaskActs': WHATEVER THE INPUT: true; the input reads as it did. -/
def maskActsSpec : ChangeSpec := { name := "maskActs", fn := fun _ => fun
  | [d1, d2] => { results := [.lit (.bool true)], args := [d1, d2] }
  | _ => none }
def maskActsRow : OpenClaim := { program := "ytgkeifjnnpcleaa", sum := "603b2b8af28a35dd07d93d2db86bf90f64c1206647c00a98afccaf07c2fbd659", func := "gloaming/gloaminglaw02.MaskActs", spec := "maskActs", unfollowed := true, recurses := true, apart := false }
def MaskActsSaid : Prop := maskActsRow.holds Try.pinned (OpenSpec.ofChange maskActsSpec)

/-- ITS FALSE NEIGHBOUR: 'it returns false'. Refute it at one input. -/
def maskActsWrong : ChangeSpec := { name := "maskActs", fn := fun _ => fun
  | [d1, d2] => { results := [.lit (.bool false)], args := [d1, d2] }
  | _ => none }
def MaskActsWrongFalsely : Prop := maskActsRow.holds Try.pinned (OpenSpec.ofChange maskActsWrong)

/-- 'gloaminglaw02.MaskOf': WHATEVER THE INPUT: true; the input reads as it did. -/
def maskOfSpec : ChangeSpec := { name := "maskOf", fn := fun _ => fun
  | [d1, d2] => { results := [.lit (.bool true)], args := [d1, d2] }
  | _ => none }
def maskOfRow : OpenClaim := { program := "ytgkeifjnnpcleaa", sum := "603b2b8af28a35dd07d93d2db86bf90f64c1206647c00a98afccaf07c2fbd659", func := "gloaming/gloaminglaw02.MaskOf", spec := "maskOf", unfollowed := true, recurses := true, apart := false }
def MaskOfSaid : Prop := maskOfRow.holds Try.pinned (OpenSpec.ofChange maskOfSpec)

/-- ITS FALSE NEIGHBOUR: 'it returns false'. Refute it at one input. -/
def maskOfWrong : ChangeSpec := { name := "maskOf", fn := fun _ => fun
  | [d1, d2] => { results := [.lit (.bool false)], args := [d1, d2] }
  | _ => none }
def MaskOfWrongFalsely : Prop := maskOfRow.holds Try.pinned (OpenSpec.ofChange maskOfWrong)

/-- 'gloaminglaw02.MaskJoins': WHATEVER THE INPUT: true; the input reads as it did. -/
def maskJoinsSpec : ChangeSpec := { name := "maskJoins", fn := fun _ => fun
  | [d1, d2, d3] => { results := [.lit (.bool true)], args := [d1, d2, d3] }
  | _ => none }
def maskJoinsRow : OpenClaim := { program := "ytgkeifjnnpcleaa", sum := "603b2b8af28a35dd07d93d2db86bf90f64c1206647c00a98afccaf07c2fbd659", func := "gloaming/gloaminglaw02.MaskJoins", spec := "maskJoins", unfollowed := true, recurses := true, apart := false }
def MaskJoinsSaid : Prop := maskJoinsRow.holds Try.pinned (OpenSpec.ofChange maskJoinsSpec)

/-- ITS FALSE NEIGHBOUR: 'it returns false'. Refute it at one input. -/
def maskJoinsWrong : ChangeSpec := { name := "maskJoins", fn := fun _ => fun
  | [d1, d2, d3] => { results := [.lit (.bool false)], args := [d1, d2, d3] }
  | _ => none }
def MaskJoinsWrongFalsely : Prop := maskJoinsRow.holds Try.pinned (OpenSpec.ofChange maskJoinsWrong)

/-- 'gloaminglaw02.MaskTells': WHATEVER THE INPUT: true; the input reads as it did. -/
def maskTellsSpec : ChangeSpec := { name := "maskTells", fn := fun _ => fun
  | [d1, d2, d3] => { results := [.lit (.bool true)], args := [d1, d2, d3] }
  | _ => none }
def maskTellsRow : OpenClaim := { program := "ytgkeifjnnpcleaa", sum := "603b2b8af28a35dd07d93d2db86bf90f64c1206647c00a98afccaf07c2fbd659", func := "gloaming/gloaminglaw02.MaskTells", spec := "maskTells", unfollowed := true, recurses := true, apart := false }
def MaskTellsSaid : Prop := maskTellsRow.holds Try.pinned (OpenSpec.ofChange maskTellsSpec)

/-- ITS FALSE NEIGHBOUR: 'it returns false'. Refute it at one input. -/
def maskTellsWrong : ChangeSpec := { name := "maskTells", fn := fun _ => fun
  | [d1, d2, d3] => { results := [.lit (.bool false)], args := [d1, d2, d3] }
  | _ => none }
def MaskTellsWrongFalsely : Prop := maskTellsRow.holds Try.pinned (OpenSpec.ofChange maskTellsWrong)

/-- 'gloaminglaw02.MaskNil': WHATEVER THE INPUT: true; the input reads as it did. -/
def maskNilSpec : ChangeSpec := { name := "maskNil", fn := fun _ => fun
  | [d1, d2, d3] => { results := [.lit (.bool true)], args := [d1, d2, d3] }
  | _ => none }
def maskNilRow : OpenClaim := { program := "ytgkeifjnnpcleaa", sum := "603b2b8af28a35dd07d93d2db86bf90f64c1206647c00a98afccaf07c2fbd659", func := "gloaming/gloaminglaw02.MaskNil", spec := "maskNil", unfollowed := true, recurses := true, apart := false }
def MaskNilSaid : Prop := maskNilRow.holds Try.pinned (OpenSpec.ofChange maskNilSpec)

/-- ITS FALSE NEIGHBOUR: 'it returns false'. Refute it at one input. -/
def maskNilWrong : ChangeSpec := { name := "maskNil", fn := fun _ => fun
  | [d1, d2, d3] => { results := [.lit (.bool false)], args := [d1, d2, d3] }
  | _ => none }
def MaskNilWrongFalsely : Prop := maskNilRow.holds Try.pinned (OpenSpec.ofChange maskNilWrong)

/-- 'gloaminglaw02.MaskLaws': WHATEVER THE INPUT: true; the input reads as it did. -/
def maskLawsSpec : ChangeSpec := { name := "maskLaws", fn := fun _ => fun
  | [d1, d2] => { results := [.lit (.bool true)], args := [d1, d2] }
  | _ => none }
def maskLawsRow : OpenClaim := { program := "ytgkeifjnnpcleaa", sum := "603b2b8af28a35dd07d93d2db86bf90f64c1206647c00a98afccaf07c2fbd659", func := "gloaming/gloaminglaw02.MaskLaws", spec := "maskLaws", unfollowed := true, recurses := true, apart := false }
def MaskLawsSaid : Prop := maskLawsRow.holds Try.pinned (OpenSpec.ofChange maskLawsSpec)

/-- ITS FALSE NEIGHBOUR: 'it returns false'. Refute it at one input. -/
def maskLawsWrong : ChangeSpec := { name := "maskLaws", fn := fun _ => fun
  | [d1, d2] => { results := [.lit (.bool false)], args := [d1, d2] }
  | _ => none }
def MaskLawsWrongFalsely : Prop := maskLawsRow.holds Try.pinned (OpenSpec.ofChange maskLawsWrong)

/- THE SECOND FORM. 'bulk': how many values and letters a reading holds, each counted each time it is reached (what is shared counts as often as it is met; a slice's spare places count too). A statement '..UptoSaid' is the law's where the arguments, and the package variables that the reading takes, are together of bulk at most 1048576: NARROWER than '..Said'. Prove '..Said' where nothing that the law and all that it calls make is longer than what came in: it says more and counts as full. Else prove '..UptoSaid'. A law counts once. -/
mutual
def uptoBulk {H : Type} : DataW H → Nat
  | .lit (.string bytes) => bytes.length + 1
  | .lit _ => 1
  | .nil => 1
  | .ptr d => uptoBulk d + 1
  | .slice elems spare => uptoBulkAll elems + uptoBulkAll spare + 1
  | .agg parts => uptoBulkAll parts + 1
  | .iface _ d => uptoBulk d + 1
  | .map entries => uptoBulkEntries entries + 1
  | .held _ => 1
def uptoBulkAll {H : Type} : List (DataW H) → Nat
  | [] => 0
  | d :: r => uptoBulk d + uptoBulkAll r
def uptoBulkEntries {H : Type} : List (Lit × DataW H) → Nat
  | [] => 0
  | x :: r => uptoBulkEntry x + uptoBulkEntries r
def uptoBulkEntry {H : Type} : Lit × DataW H → Nat
  | (.string bytes, d) => bytes.length + uptoBulk d + 1
  | (_, d) => uptoBulk d + 1
 end
def uptoSmall : (H : Type) → List (DataW H) → Bool := fun _ ds => decide (uptoBulkAll ds ≤ 1048576)
def OpenSpec.upto (s : _root_.Go.ChangeSpec) : _root_.Go.OpenSpec := { _root_.Go.OpenSpec.ofChange s with cond := some uptoSmall }

/-- 'gloaminglaw02.MaskActs', WHERE WHAT IT READS IS OF BULK AT MOST 1048576: true; the input reads as it did. -/
def maskActsUptoRow : OpenClaim := { program := "ytgkeifjnnpcleaa", sum := "603b2b8af28a35dd07d93d2db86bf90f64c1206647c00a98afccaf07c2fbd659", func := "gloaming/gloaminglaw02.MaskActs", spec := "maskActs", unfollowed := true, recurses := true, apart := false, narrowed := true }
def MaskActsUptoSaid : Prop := maskActsUptoRow.holds Try.pinned (OpenSpec.upto maskActsSpec)

/-- 'gloaminglaw02.MaskOf', WHERE WHAT IT READS IS OF BULK AT MOST 1048576: true; the input reads as it did. -/
def maskOfUptoRow : OpenClaim := { program := "ytgkeifjnnpcleaa", sum := "603b2b8af28a35dd07d93d2db86bf90f64c1206647c00a98afccaf07c2fbd659", func := "gloaming/gloaminglaw02.MaskOf", spec := "maskOf", unfollowed := true, recurses := true, apart := false, narrowed := true }
def MaskOfUptoSaid : Prop := maskOfUptoRow.holds Try.pinned (OpenSpec.upto maskOfSpec)

/-- 'gloaminglaw02.MaskJoins', WHERE WHAT IT READS IS OF BULK AT MOST 1048576: true; the input reads as it did. -/
def maskJoinsUptoRow : OpenClaim := { program := "ytgkeifjnnpcleaa", sum := "603b2b8af28a35dd07d93d2db86bf90f64c1206647c00a98afccaf07c2fbd659", func := "gloaming/gloaminglaw02.MaskJoins", spec := "maskJoins", unfollowed := true, recurses := true, apart := false, narrowed := true }
def MaskJoinsUptoSaid : Prop := maskJoinsUptoRow.holds Try.pinned (OpenSpec.upto maskJoinsSpec)

/-- 'gloaminglaw02.MaskTells', WHERE WHAT IT READS IS OF BULK AT MOST 1048576: true; the input reads as it did. -/
def maskTellsUptoRow : OpenClaim := { program := "ytgkeifjnnpcleaa", sum := "603b2b8af28a35dd07d93d2db86bf90f64c1206647c00a98afccaf07c2fbd659", func := "gloaming/gloaminglaw02.MaskTells", spec := "maskTells", unfollowed := true, recurses := true, apart := false, narrowed := true }
def MaskTellsUptoSaid : Prop := maskTellsUptoRow.holds Try.pinned (OpenSpec.upto maskTellsSpec)

/-- 'gloaminglaw02.MaskNil', WHERE WHAT IT READS IS OF BULK AT MOST 1048576: true; the input reads as it did. -/
def maskNilUptoRow : OpenClaim := { program := "ytgkeifjnnpcleaa", sum := "603b2b8af28a35dd07d93d2db86bf90f64c1206647c00a98afccaf07c2fbd659", func := "gloaming/gloaminglaw02.MaskNil", spec := "maskNil", unfollowed := true, recurses := true, apart := false, narrowed := true }
def MaskNilUptoSaid : Prop := maskNilUptoRow.holds Try.pinned (OpenSpec.upto maskNilSpec)

/-- 'gloaminglaw02.MaskLaws', WHERE WHAT IT READS IS OF BULK AT MOST 1048576: true; the input reads as it did. -/
def maskLawsUptoRow : OpenClaim := { program := "ytgkeifjnnpcleaa", sum := "603b2b8af28a35dd07d93d2db86bf90f64c1206647c00a98afccaf07c2fbd659", func := "gloaming/gloaminglaw02.MaskLaws", spec := "maskLaws", unfollowed := true, recurses := true, apart := false, narrowed := true }
def MaskLawsUptoSaid : Prop := maskLawsUptoRow.holds Try.pinned (OpenSpec.upto maskLawsSpec)

end Rows
end Go.Proofs.Ytgkeifjnnpcleaa
