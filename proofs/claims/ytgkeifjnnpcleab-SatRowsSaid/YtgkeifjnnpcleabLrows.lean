/- SatRows: the law's walk. -/
import Derived.Test.YtgkeifjnnpcleabUp
namespace Go.Proofs.Ytgkeifjnnpcleab
open Go.RowKit

set_option maxRecDepth 100000 in
set_option maxHeartbeats 1600000 in
theorem rows_walk (a b t : Option Addr) (ca cb ct : Nat) (xs ys : List Int) (ts : List (Option Addr × Nat × List Int)) (w : World) (ra : RowU w a xs) (rb : RowU w b ys) (rt : TabU w t ts) (ux : AllU xs) (ut : AllT (rowsT ts)) :
    Calls Try.prog 6 #[.slice a xs.length ca, .slice b ys.length cb, .slice t ts.length ct] w fun e w' => e = .returned (.bool true) ∧ Below w.heap.size w w' := by
  go_enter Try.func6, Try.ntmps6
  by_cases l0 : (60 : Int) < (xs.length : Int)
  · skip
    go_wp2_with fail
    refine (awake_any _).mono ?_
    rintro e w9 ⟨rfl, hb⟩
    have HB := Lib.hid hb
    clear hb
    go_wp2
    go_ret
    exact ⟨rfl, HB.out⟩
  · by_cases l1 : (60 : Int) < (ys.length : Int)
    · skip
      go_wp2_with fail
      refine (awake_any _).mono ?_
      rintro e w9 ⟨rfl, hb⟩
      have HB := Lib.hid hb
      clear hb
      go_wp2
      go_ret
      exact ⟨rfl, HB.out⟩
    · go_wp2_with fail
      refine (small_any t ct ts w rt).mono ?_
      rintro e w' ⟨rfl, rfl⟩
      cases hs : smallT (rowsT ts)
      · skip
        go_wp2_with fail
        refine (awake_any _).mono ?_
        rintro e w9 ⟨rfl, hb⟩
        have HB := Lib.hid hb
        clear hb
        go_wp2
        go_ret
        exact ⟨rfl, HB.out⟩
      · have lx : xs.length ≤ 1048576 := by omega
        have lt : ts.length ≤ 1048576 := by have := (smallT_iff hs).1; rw [rowsT_len] at this; omega
        have lw : wideT (rowsT ts) ≤ 1048576 := by have := wideT_small hs; omega
        have lj : (joinR xs ys).length ≤ 1048576 := Nat.le_trans (joinR_len xs ys) lx
        have lv : (viaR xs (rowsT ts)).length ≤ 1048576 := Nat.le_trans (viaR_len xs _) lw
        clear hs
        have e1 : (joinE xs ys == joinE xs ys) = true := beq_self_eq_true _
        have e2 : (viaE xs (rowsT ts) == viaE xs (rowsT ts)) = true := beq_self_eq_true _
        have B0 := Lib.hid (bl0 w)
        go_wp2_with fail
        refine (joinall a b ca cb xs ys _ lx ra rb).mono ?_
        rintro e w1 ⟨z1, c1, rfl, m1, hb⟩
        replace B0 := Lib.hid (bl_tr B0.out hb); replace ra := ra.below hb; replace rb := rb.below hb; replace rt := rt.below hb
        clear hb
        go_wp2_with fail
        refine (rjoinall a b ca cb xs ys _ lx ra rb).mono ?_
        rintro e w2 ⟨z2, c2, rfl, m2, hb⟩
        replace B0 := Lib.hid (bl_tr B0.out hb); replace ra := ra.below hb; replace rt := rt.below hb; replace m1 := m1.below hb
        clear hb rb
        go_wp2_with fail
        refine (viaall a t ca ct xs ts _ lt lw ra rt ux ut).mono ?_
        rintro e w3 ⟨z3, c3, rfl, m3, hb⟩
        replace B0 := Lib.hid (bl_tr B0.out hb); replace ra := ra.below hb; replace rt := rt.below hb; replace m1 := m1.below hb; replace m2 := m2.below hb
        clear hb
        go_wp2_with fail
        refine (rviaall a t ca ct xs ts _ lt lw ra rt ux ut).mono ?_
        rintro e w4 ⟨z4, c4, rfl, m4, hb⟩
        replace B0 := Lib.hid (bl_tr B0.out hb); replace m1 := m1.below hb; replace m2 := m2.below hb; replace m3 := m3.below hb
        clear hb ra rt
        go_wp2_with fail
        refine (same_yes z1 z2 _ _ (joinR xs ys) _ m1 m2 lj).mono ?_
        rintro e w5 ⟨rfl, hb⟩
        replace B0 := Lib.hid (bl_tr B0.out hb); replace m3 := m3.below hb; replace m4 := m4.below hb
        clear hb
        go_wp2_with fail
        refine (same_yes z3 z4 _ _ (viaR xs (rowsT ts)) _ m3 m4 lv).mono ?_
        rintro e w6 ⟨rfl, hb⟩
        replace B0 := Lib.hid (bl_tr B0.out hb)
        clear hb
        go_wp2_with fail
        refine (awake_any _).mono ?_
        rintro e w7 ⟨rfl, hb⟩
        replace B0 := Lib.hid (bl_tr B0.out hb)
        clear hb
        go_wp2
        go_ret
        exact ⟨rfl, B0.out⟩
end Go.Proofs.Ytgkeifjnnpcleab
