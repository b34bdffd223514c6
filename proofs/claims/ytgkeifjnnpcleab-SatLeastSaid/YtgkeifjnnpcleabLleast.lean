/- SatLeast: the law's walk. -/
import Derived.Test.YtgkeifjnnpcleabUl
import Derived.Test.YtgkeifjnnpcleabUd
namespace Go.Proofs.Ytgkeifjnnpcleab
open Go.RowKit

set_option maxRecDepth 100000 in
set_option maxHeartbeats 1600000 in
theorem least_walk (a : Option Addr) (cap : Nat) (zs : List Int) (w : World) (hr : RowU w a zs) (hu : AllU zs) :
    Calls Try.prog 5 #[.slice a zs.length cap] w fun e w' => e = .returned (.bool true) ∧ Below w.heap.size w w' := by
  go_enter Try.func5, Try.ntmps5
  by_cases hl : (100 : Int) < (zs.length : Int)
  · go_wp2_with fail
    refine (awake_any _).mono ?_
    rintro e w1 ⟨rfl, hb⟩
    have HB := Lib.hid hb
    clear hb
    go_wp2
    go_ret
    exact ⟨rfl, HB.out⟩
  · have hlen : zs.length ≤ 1048576 := by omega
    go_wp2_with fail
    refine (least_any a cap zs w hr hu hlen).mono ?_
    rintro e w' ⟨rfl, rfl⟩
    go_wp2_with fail
    refine (rleast_any a cap zs w hr hu hlen).mono ?_
    rintro e w1 ⟨rfl, hb⟩
    have HB := Lib.hid hb
    clear hb
    have h1 : (((leastC zs).1 : Int) == ((leastC zs).1 : Int)) = true := beq_self_eq_true _
    have h2 : ((leastC zs).2 == (leastC zs).2) = true := beq_self_eq_true _
    go_wp2_with fail
    refine (awake_any _).mono ?_
    rintro e w2 ⟨rfl, hb⟩
    have HB2 := Lib.hid (bl_tr HB.out hb)
    clear hb
    go_wp2
    go_ret
    exact ⟨rfl, HB2.out⟩
end Go.Proofs.Ytgkeifjnnpcleab
