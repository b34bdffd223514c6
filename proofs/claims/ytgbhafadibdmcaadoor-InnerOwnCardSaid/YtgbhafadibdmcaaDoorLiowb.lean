/- InnerOwn: the law's walk, all of it. -/
import Derived.Test.YtgbhafadibdmcaaDoorLiow
namespace Go.Proofs.YtgbhafadibdmcaaDoor
open Go.RowKit

theorem iow_walk (A B : Int) (a : Option Addr) (cap : Nat) (zs : List Int) (X Y S id at_ : Int) (ca : Option Addr) (cc : Nat) (cs : List IC) (p : IC) (w : World) (hs : Stp w) (hr : RowH w a zs) (hz : AllH zs) (hc : zs.length ≤ cap) (hcs : RowC w ca cs) :
    Calls Tryd.prog 6 #[.agg #[.int .i64 A, .int .i64 B, .slice a zs.length cap], .agg #[.int .i64 X, .int .i64 Y, .int .i64 S], .agg #[.int .i64 id, .slice ca cs.length cc, .int .i64 p.1, .int .i64 p.2, .int .i64 at_]] w fun e w' => e = .returned (.bool true) ∧ Below w.heap.size w w' := by
  by_cases h : (zs.length ≤ 260 ∧ cs.length ≤ 60) ∧ cs.length ≤ 30 ∧ 0 ≤ at_ ∧ at_ < cs.length
  · obtain ⟨hsm, h30, h0, h1⟩ := h
    obtain ⟨k, rfl⟩ : ∃ k : Nat, at_ = k := ⟨at_.toNat, by omega⟩
    exact iow_main A B a cap zs X Y S id k ca cc cs p w hs hr hz hc hcs hsm h30 (by omega)
  · exact iow_off A B a cap zs X Y S id at_ ca cc cs p w hs h
end Go.Proofs.YtgbhafadibdmcaaDoor
