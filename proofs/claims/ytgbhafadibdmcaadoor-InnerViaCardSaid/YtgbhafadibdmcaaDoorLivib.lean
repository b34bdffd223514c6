/- InnerVia: the law's walk, all of it. -/
import Derived.Test.YtgbhafadibdmcaaDoorLivia
namespace Go.Proofs.YtgbhafadibdmcaaDoor
open Go.RowKit

theorem ivia_walk (A B : Int) (a : Option Addr) (cap : Nat) (zs : List Int) (X Y S id : Int) (ca : Option Addr) (cc : Nat) (cs : List IC) (p : IC) (w : World) (hs : Stp w) (hr : RowH w a zs) (hz : AllH zs) (hc : zs.length ≤ cap) (hcs : RowC w ca cs) :
    Calls Tryd.prog 5 #[.agg #[.int .i64 A, .int .i64 B, .slice a zs.length cap], .agg #[.int .i64 X, .int .i64 Y, .int .i64 S], .agg #[.int .i64 id, .slice ca cs.length cc, .int .i64 p.1, .int .i64 p.2]] w fun e w' => e = .returned (.bool true) ∧ Below w.heap.size w w' := by
  by_cases h : (zs.length ≤ 260 ∧ cs.length ≤ 60) ∧ cs.length ≤ 30
  · by_cases h0 : chkI A B zs.length X Y S id cs = 0
    · exact ivia_yes A B a cap zs X Y S id ca cc cs p w hs hr hz hc hcs h.1 h.2 h0
    · exact ivia_no A B a cap zs X Y S id ca cc cs p w hs hr hz hc hcs h.1 h.2 h0
  · exact ivia_off A B a cap zs X Y S id ca cc cs p w hs h
end Go.Proofs.YtgbhafadibdmcaaDoor
