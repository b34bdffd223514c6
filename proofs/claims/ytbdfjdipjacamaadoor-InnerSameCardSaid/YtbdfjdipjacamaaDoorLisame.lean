/- InnerSame: the law's walk. -/
import Derived.Test.YtbdfjdipjacamaaDoorXr
import Derived.Test.YtbdfjdipjacamaaDoorK2
namespace Go.Proofs.YtbdfjdipjacamaaDoor
open Go.RowKit

set_option maxRecDepth 100000 in
set_option maxHeartbeats 8000000 in
theorem isame_walk (a a2 t t2 : Option Addr) (ac ac2 tc tc2 : Nat) (xs ys : List (Int × Int)) (rs qs : List (List Int)) (w : World) (hs : Stp w) (hr : RowC w a xs) (hr2 : RowC w a2 ys) (ht : TabR w t rs) (ht2 : TabR w t2 qs) :
    Calls Tryd.prog 10 #[.agg #[.slice a xs.length ac, .slice t rs.length tc], .agg #[.slice a2 ys.length ac2, .slice t2 qs.length tc2]] w fun e w' => e = .returned (.bool true) ∧ Below w.heap.size w w' := by
  have hA := bl0 w
  have hcase : 20 < xs.length ∨ (xs.length ≤ 20 ∧ 20 < ys.length) ∨ (xs.length ≤ 20 ∧ ys.length ≤ 20 ∧ 20 < rs.length) ∨ (xs.length ≤ 20 ∧ ys.length ≤ 20 ∧ rs.length ≤ 20 ∧ 20 < qs.length) ∨ (xs.length ≤ 20 ∧ ys.length ≤ 20 ∧ rs.length ≤ 20 ∧ qs.length ≤ 20) := by omega
  rcases hcase with h | h | h | h | h
  · have b1 : decide (20 < xs.length) = true := decide_eq_true (by omega)
    have i1 : decide ((20 : Int) < (xs.length : Int)) = true := decide_eq_true (by omega)
    clear hr hr2 ht ht2
    go_enter Tryd.func10, Tryd.ntmps10
    go_wp2_with fail
    refine (awake13 _ (hs.below (by first | exact hA | exact (bl_al hA _) | exact (bl_dr (bl_al hA _)) | exact (bl_al (bl_al hA _) _) | exact (bl_dr (bl_al (bl_al hA _) _)) | exact (bl_al (bl_al (bl_al hA _) _) _) | exact (bl_dr (bl_al (bl_al (bl_al hA _) _) _)) | exact (bl_al (bl_al (bl_al (bl_al hA _) _) _) _) | exact (bl_dr (bl_al (bl_al (bl_al (bl_al hA _) _) _) _)) | exact (bl_al (bl_al (bl_al (bl_al (bl_al hA _) _) _) _) _) | exact (bl_dr (bl_al (bl_al (bl_al (bl_al (bl_al hA _) _) _) _) _)) | exact (bl_al (bl_al (bl_al (bl_al (bl_al (bl_al hA _) _) _) _) _) _) | exact (bl_dr (bl_al (bl_al (bl_al (bl_al (bl_al (bl_al hA _) _) _) _) _) _)) | exact (bl_dr hA)))).mono ?_
    rintro e w1 ⟨rfl, hb⟩
    have hk : Below w.heap.size w w1 := by first | exact hb | exact bl_tr (bl_al (bl0 _) _) hb | exact bl_tr (bl_dr (bl_al (bl0 _) _)) hb | exact bl_tr (bl_al (bl_al (bl0 _) _) _) hb | exact bl_tr (bl_dr (bl_al (bl_al (bl0 _) _) _)) hb | exact bl_tr (bl_al (bl_al (bl_al (bl0 _) _) _) _) hb | exact bl_tr (bl_dr (bl_al (bl_al (bl_al (bl0 _) _) _) _)) hb | exact bl_tr (bl_al (bl_al (bl_al (bl_al (bl0 _) _) _) _) _) hb | exact bl_tr (bl_dr (bl_al (bl_al (bl_al (bl_al (bl0 _) _) _) _) _)) hb | exact bl_tr (bl_al (bl_al (bl_al (bl_al (bl_al (bl0 _) _) _) _) _) _) hb | exact bl_tr (bl_dr (bl_al (bl_al (bl_al (bl_al (bl_al (bl0 _) _) _) _) _) _)) hb | exact bl_tr (bl_al (bl_al (bl_al (bl_al (bl_al (bl_al (bl0 _) _) _) _) _) _) _) hb | exact bl_tr (bl_dr (bl_al (bl_al (bl_al (bl_al (bl_al (bl_al (bl0 _) _) _) _) _) _) _)) hb | exact bl_tr (bl_dr (bl0 _)) hb
    replace hA := bl_tr hA hk
    clear hb hk
    go_wp2
    go_ret
    exact ⟨rfl, hA⟩
  · have b1 : decide (20 < xs.length) = false := decide_eq_false (by omega)
    have i1 : decide ((20 : Int) < (xs.length : Int)) = false := decide_eq_false (by omega)
    have b2 : decide (20 < ys.length) = true := decide_eq_true (by omega)
    have i2 : decide ((20 : Int) < (ys.length : Int)) = true := decide_eq_true (by omega)
    clear hr hr2 ht ht2
    go_enter Tryd.func10, Tryd.ntmps10
    go_wp2_with fail
    refine (awake13 _ (hs.below (by first | exact hA | exact (bl_al hA _) | exact (bl_dr (bl_al hA _)) | exact (bl_al (bl_al hA _) _) | exact (bl_dr (bl_al (bl_al hA _) _)) | exact (bl_al (bl_al (bl_al hA _) _) _) | exact (bl_dr (bl_al (bl_al (bl_al hA _) _) _)) | exact (bl_al (bl_al (bl_al (bl_al hA _) _) _) _) | exact (bl_dr (bl_al (bl_al (bl_al (bl_al hA _) _) _) _)) | exact (bl_al (bl_al (bl_al (bl_al (bl_al hA _) _) _) _) _) | exact (bl_dr (bl_al (bl_al (bl_al (bl_al (bl_al hA _) _) _) _) _)) | exact (bl_al (bl_al (bl_al (bl_al (bl_al (bl_al hA _) _) _) _) _) _) | exact (bl_dr (bl_al (bl_al (bl_al (bl_al (bl_al (bl_al hA _) _) _) _) _) _)) | exact (bl_dr hA)))).mono ?_
    rintro e w1 ⟨rfl, hb⟩
    have hk : Below w.heap.size w w1 := by first | exact hb | exact bl_tr (bl_al (bl0 _) _) hb | exact bl_tr (bl_dr (bl_al (bl0 _) _)) hb | exact bl_tr (bl_al (bl_al (bl0 _) _) _) hb | exact bl_tr (bl_dr (bl_al (bl_al (bl0 _) _) _)) hb | exact bl_tr (bl_al (bl_al (bl_al (bl0 _) _) _) _) hb | exact bl_tr (bl_dr (bl_al (bl_al (bl_al (bl0 _) _) _) _)) hb | exact bl_tr (bl_al (bl_al (bl_al (bl_al (bl0 _) _) _) _) _) hb | exact bl_tr (bl_dr (bl_al (bl_al (bl_al (bl_al (bl0 _) _) _) _) _)) hb | exact bl_tr (bl_al (bl_al (bl_al (bl_al (bl_al (bl0 _) _) _) _) _) _) hb | exact bl_tr (bl_dr (bl_al (bl_al (bl_al (bl_al (bl_al (bl0 _) _) _) _) _) _)) hb | exact bl_tr (bl_al (bl_al (bl_al (bl_al (bl_al (bl_al (bl0 _) _) _) _) _) _) _) hb | exact bl_tr (bl_dr (bl_al (bl_al (bl_al (bl_al (bl_al (bl_al (bl0 _) _) _) _) _) _) _)) hb | exact bl_tr (bl_dr (bl0 _)) hb
    replace hA := bl_tr hA hk
    clear hb hk
    go_wp2
    go_ret
    exact ⟨rfl, hA⟩
  · have b1 : decide (20 < xs.length) = false := decide_eq_false (by omega)
    have i1 : decide ((20 : Int) < (xs.length : Int)) = false := decide_eq_false (by omega)
    have b2 : decide (20 < ys.length) = false := decide_eq_false (by omega)
    have i2 : decide ((20 : Int) < (ys.length : Int)) = false := decide_eq_false (by omega)
    have b3 : decide (20 < rs.length) = true := decide_eq_true (by omega)
    have i3 : decide ((20 : Int) < (rs.length : Int)) = true := decide_eq_true (by omega)
    clear hr hr2 ht ht2
    go_enter Tryd.func10, Tryd.ntmps10
    go_wp2_with fail
    refine (awake13 _ (hs.below (by first | exact hA | exact (bl_al hA _) | exact (bl_dr (bl_al hA _)) | exact (bl_al (bl_al hA _) _) | exact (bl_dr (bl_al (bl_al hA _) _)) | exact (bl_al (bl_al (bl_al hA _) _) _) | exact (bl_dr (bl_al (bl_al (bl_al hA _) _) _)) | exact (bl_al (bl_al (bl_al (bl_al hA _) _) _) _) | exact (bl_dr (bl_al (bl_al (bl_al (bl_al hA _) _) _) _)) | exact (bl_al (bl_al (bl_al (bl_al (bl_al hA _) _) _) _) _) | exact (bl_dr (bl_al (bl_al (bl_al (bl_al (bl_al hA _) _) _) _) _)) | exact (bl_al (bl_al (bl_al (bl_al (bl_al (bl_al hA _) _) _) _) _) _) | exact (bl_dr (bl_al (bl_al (bl_al (bl_al (bl_al (bl_al hA _) _) _) _) _) _)) | exact (bl_dr hA)))).mono ?_
    rintro e w1 ⟨rfl, hb⟩
    have hk : Below w.heap.size w w1 := by first | exact hb | exact bl_tr (bl_al (bl0 _) _) hb | exact bl_tr (bl_dr (bl_al (bl0 _) _)) hb | exact bl_tr (bl_al (bl_al (bl0 _) _) _) hb | exact bl_tr (bl_dr (bl_al (bl_al (bl0 _) _) _)) hb | exact bl_tr (bl_al (bl_al (bl_al (bl0 _) _) _) _) hb | exact bl_tr (bl_dr (bl_al (bl_al (bl_al (bl0 _) _) _) _)) hb | exact bl_tr (bl_al (bl_al (bl_al (bl_al (bl0 _) _) _) _) _) hb | exact bl_tr (bl_dr (bl_al (bl_al (bl_al (bl_al (bl0 _) _) _) _) _)) hb | exact bl_tr (bl_al (bl_al (bl_al (bl_al (bl_al (bl0 _) _) _) _) _) _) hb | exact bl_tr (bl_dr (bl_al (bl_al (bl_al (bl_al (bl_al (bl0 _) _) _) _) _) _)) hb | exact bl_tr (bl_al (bl_al (bl_al (bl_al (bl_al (bl_al (bl0 _) _) _) _) _) _) _) hb | exact bl_tr (bl_dr (bl_al (bl_al (bl_al (bl_al (bl_al (bl_al (bl0 _) _) _) _) _) _) _)) hb | exact bl_tr (bl_dr (bl0 _)) hb
    replace hA := bl_tr hA hk
    clear hb hk
    go_wp2
    go_ret
    exact ⟨rfl, hA⟩
  · have b1 : decide (20 < xs.length) = false := decide_eq_false (by omega)
    have i1 : decide ((20 : Int) < (xs.length : Int)) = false := decide_eq_false (by omega)
    have b2 : decide (20 < ys.length) = false := decide_eq_false (by omega)
    have i2 : decide ((20 : Int) < (ys.length : Int)) = false := decide_eq_false (by omega)
    have b3 : decide (20 < rs.length) = false := decide_eq_false (by omega)
    have i3 : decide ((20 : Int) < (rs.length : Int)) = false := decide_eq_false (by omega)
    have b4 : decide (20 < qs.length) = true := decide_eq_true (by omega)
    have i4 : decide ((20 : Int) < (qs.length : Int)) = true := decide_eq_true (by omega)
    clear hr hr2 ht ht2
    go_enter Tryd.func10, Tryd.ntmps10
    go_wp2_with fail
    refine (awake13 _ (hs.below (by first | exact hA | exact (bl_al hA _) | exact (bl_dr (bl_al hA _)) | exact (bl_al (bl_al hA _) _) | exact (bl_dr (bl_al (bl_al hA _) _)) | exact (bl_al (bl_al (bl_al hA _) _) _) | exact (bl_dr (bl_al (bl_al (bl_al hA _) _) _)) | exact (bl_al (bl_al (bl_al (bl_al hA _) _) _) _) | exact (bl_dr (bl_al (bl_al (bl_al (bl_al hA _) _) _) _)) | exact (bl_al (bl_al (bl_al (bl_al (bl_al hA _) _) _) _) _) | exact (bl_dr (bl_al (bl_al (bl_al (bl_al (bl_al hA _) _) _) _) _)) | exact (bl_al (bl_al (bl_al (bl_al (bl_al (bl_al hA _) _) _) _) _) _) | exact (bl_dr (bl_al (bl_al (bl_al (bl_al (bl_al (bl_al hA _) _) _) _) _) _)) | exact (bl_dr hA)))).mono ?_
    rintro e w1 ⟨rfl, hb⟩
    have hk : Below w.heap.size w w1 := by first | exact hb | exact bl_tr (bl_al (bl0 _) _) hb | exact bl_tr (bl_dr (bl_al (bl0 _) _)) hb | exact bl_tr (bl_al (bl_al (bl0 _) _) _) hb | exact bl_tr (bl_dr (bl_al (bl_al (bl0 _) _) _)) hb | exact bl_tr (bl_al (bl_al (bl_al (bl0 _) _) _) _) hb | exact bl_tr (bl_dr (bl_al (bl_al (bl_al (bl0 _) _) _) _)) hb | exact bl_tr (bl_al (bl_al (bl_al (bl_al (bl0 _) _) _) _) _) hb | exact bl_tr (bl_dr (bl_al (bl_al (bl_al (bl_al (bl0 _) _) _) _) _)) hb | exact bl_tr (bl_al (bl_al (bl_al (bl_al (bl_al (bl0 _) _) _) _) _) _) hb | exact bl_tr (bl_dr (bl_al (bl_al (bl_al (bl_al (bl_al (bl0 _) _) _) _) _) _)) hb | exact bl_tr (bl_al (bl_al (bl_al (bl_al (bl_al (bl_al (bl0 _) _) _) _) _) _) _) hb | exact bl_tr (bl_dr (bl_al (bl_al (bl_al (bl_al (bl_al (bl_al (bl0 _) _) _) _) _) _) _)) hb | exact bl_tr (bl_dr (bl0 _)) hb
    replace hA := bl_tr hA hk
    clear hb hk
    go_wp2
    go_ret
    exact ⟨rfl, hA⟩
  · have b1 : decide (20 < xs.length) = false := decide_eq_false (by omega)
    have i1 : decide ((20 : Int) < (xs.length : Int)) = false := decide_eq_false (by omega)
    have b2 : decide (20 < ys.length) = false := decide_eq_false (by omega)
    have i2 : decide ((20 : Int) < (ys.length : Int)) = false := decide_eq_false (by omega)
    have b3 : decide (20 < rs.length) = false := decide_eq_false (by omega)
    have i3 : decide ((20 : Int) < (rs.length : Int)) = false := decide_eq_false (by omega)
    have b4 : decide (20 < qs.length) = false := decide_eq_false (by omega)
    have i4 : decide ((20 : Int) < (qs.length : Int)) = false := decide_eq_false (by omega)
    have hrl : (rs.length : Int) ≤ 20 := by omega
    have H := Lib.hid h
    clear h
    obtain ⟨W0, hW0⟩ : ∃ W0, (w.alloc (.cells #[.slice a xs.length ac, .slice t rs.length tc] 72)).alloc (.cells #[.slice a2 ys.length ac2, .slice t2 qs.length tc2] 72) = W0 := ⟨_, rfl⟩
    have hA0 : Below w.heap.size w W0 := by rw [← hW0]; exact bl_al (bl_al hA _) _
    have f0 : W0.cell? ⟨w.heap.size, 0, none⟩ = some (.slice a xs.length ac) := by rw [← hW0]; simp [go_sem]
    have f1 : W0.cell? ⟨w.heap.size, 1, none⟩ = some (.slice t rs.length tc) := by rw [← hW0]; simp [go_sem]
    have g0 : W0.cell? ⟨w.heap.size + 1, 0, none⟩ = some (.slice a2 ys.length ac2) := by rw [← hW0]; simp [go_sem]
    have g1 : W0.cell? ⟨w.heap.size + 1, 1, none⟩ = some (.slice t2 qs.length tc2) := by rw [← hW0]; simp [go_sem]
    have HF := Lib.hid (show ∀ W9, Below W0.heap.size W0 W9 → W9.cell? ⟨w.heap.size, 0, none⟩ = some (.slice a xs.length ac) ∧ W9.cell? ⟨w.heap.size, 1, none⟩ = some (.slice t rs.length tc) ∧ W9.cell? ⟨w.heap.size + 1, 0, none⟩ = some (.slice a2 ys.length ac2) ∧ W9.cell? ⟨w.heap.size + 1, 1, none⟩ = some (.slice t2 qs.length tc2) from fun W9 h => ⟨cell_later h f0, cell_later h f1, cell_later h g0, cell_later h g1⟩)
    have HW0 := Lib.hid hW0
    have HA0 := Lib.hid hA0
    have HR := Lib.hid (hr.below hA0); have HR2 := Lib.hid (hr2.below hA0); have HT := Lib.hid (ht.below hA0); have HT2 := Lib.hid (ht2.below hA0)
    have HST := Lib.hid (hs.below hA0)
    clear hA0 f0 f1 g0 g1 hr hr2 ht ht2 hs hA hW0
    go_enter Tryd.func10, Tryd.ntmps10
    go_wp2_with fail
    rw [HW0.out]
    go_loopw [5] (fun iv wr => ∃ k : Nat, k ≤ rs.length ∧ iv = .int .i64 k ∧ (∀ (j : Nat) (hj : j < rs.length), j < k → rs[j].length ≤ 20) ∧ Below W0.heap.size W0 wr) (fun iv _ => rs.length - (intOf iv).toNat)
    case atStart => exact ⟨0, Nat.zero_le _, rfl, fun j hj h => absurd h (by omega), bl0 _⟩
    case round =>
      obtain ⟨k, hk, rfl, hall, hB⟩ := hrel
      have hk0 : (0 : Int) ≤ (k : Int) := by omega
      obtain ⟨f0, f1, g0, g1⟩ := HF.out _ hB
      have zf := blk_lt f0
      have zg := blk_lt g0
      have HALL := Lib.hid hall
      clear hall
      by_cases hlt : k < rs.length
      · have hlt2 : (k : Int) < (rs.length : Int) := by omega
        obtain ⟨gb, go, ra, rc, rfl, q, hq⟩ := (HT.out.below hB).cell hlt
        clear hq
        by_cases h20 : rs[k].length ≤ 20
        · have HN := Lib.hid (show ∀ (j : Nat) (hj : j < rs.length), j < k + 1 → rs[j].length ≤ 20 from fun j hj h => by
            rcases Nat.lt_or_eq_of_le (Nat.le_of_lt_succ h) with h | rfl
            · exact HALL.out j hj h
            · exact h20)
          have b5 : decide (20 < rs[k].length) = false := decide_eq_false (by omega)
          have i5 : decide ((20 : Int) < (rs[k].length : Int)) = false := decide_eq_false (by omega)
          generalize rs[k].length = m at *
          clear h20
          go_wp2
          go_roundw
          case rel => exact ⟨k + 1, by omega, by go_num, HN.out, hB⟩
          case measure => simp [intOf]; omega
        · have b5 : decide (20 < rs[k].length) = true := decide_eq_true (by omega)
          have i5 : decide ((20 : Int) < (rs[k].length : Int)) = true := decide_eq_true (by omega)
          generalize rs[k].length = m at *
          clear h20
          go_wp2_with fail
          refine (awake13 _ (HST.out.below hB)).mono ?_
          rintro e w9 ⟨rfl, hb⟩
          have hA9 := bl_tr HA0.out (bl_tr hB hb)
          clear hb
          go_wp2
          go_ret
          exact ⟨rfl, hA9⟩
      · obtain rfl : k = rs.length := by omega
        have hge : ¬ (rs.length : Int) < (rs.length : Int) := by omega
        have hxl : ∀ r ∈ rs, r.length ≤ 1048576 := fun r hr => by
          obtain ⟨j, hj, rfl⟩ := List.getElem_of_mem hr
          exact Nat.le_trans (HALL.out j hj hj) (by omega)
        have H44 := Lib.hid (fun w h1 h2 h3 h4 => same_i a a2 t t2 ac ac2 tc tc2 xs ys rs qs w h1 h2 h3 h4 (by have := H.out; omega) (by omega) hxl)
        have H44s := Lib.hid (fun w h1 h2 h3 h4 => same_i a a t t ac ac tc tc xs xs rs rs w h1 h2 h3 h4 (by have := H.out; omega) (by omega) hxl)
        have H37 := Lib.hid (fun w h1 h2 => cells13_q a a2 ac ac2 xs ys w h1 h2 (by have := H.out; omega))
        have H38 := Lib.hid (fun w h1 h2 => rows13_any t t2 tc tc2 rs qs w h1 h2 (by omega) hxl)
        rw [decide_eq_true (rfl : xs = xs), decide_eq_true (rfl : rs = rs)] at H44s
        obtain ⟨u, hu⟩ : ∃ u, decide (xs = ys) = u := ⟨_, rfl⟩
        obtain ⟨v, hv⟩ : ∃ v, decide (rs = qs) = v := ⟨_, rfl⟩
        rw [hu, hv] at H44
        rw [hu] at H37
        rw [hv] at H38
        clear hu hv hxl
        go_upto_region 8 with fail
        replace hB := bl_tr hB (bl_dr (bl0 wr))
        refine (wpIn_wide (n := 11)).1 ?_
        refine ordS_begin (S := (fun W9 : World => W9.cell? ⟨w.heap.size, 0, none⟩ = some (.slice a xs.length ac) ∧ W9.cell? ⟨w.heap.size, 1, none⟩ = some (.slice t rs.length tc) ∧ W9.cell? ⟨w.heap.size + 1, 0, none⟩ = some (.slice a2 ys.length ac2) ∧ W9.cell? ⟨w.heap.size + 1, 1, none⟩ = some (.slice t2 qs.length tc2))) (by kernel_rfl) (HF.out _ hB) (fun hH => ?_)
        refine' ordS_take (i := 0) (oi := { dst := some 44, op := Op.load 72 (Operand.tmp 2), type := 72, pos := _, after := #[], guard := none }) (v := _) rfl (by kernel_rfl) (by kernel_rfl) (by kernel_rfl) (by kernel_rfl) (fun _ _ _ h => h) (by assumption) (Or.inl ⟨by rfl, ?hy1⟩) (fun _ => rfl) ?rest1
        case hy1 => (intro w hSw; (try dsimp only at hSw); go_simp; try with_reducible rfl)
        try simp only [Act.put, List.setIfInBounds_toArray, List.set_cons_zero, List.set_cons_succ]
        refine' ordS_take (i := 1) (oi := { dst := some 45, op := Op.load 72 (Operand.tmp 3), type := 72, pos := _, after := #[], guard := none }) (v := _) rfl (by kernel_rfl) (by kernel_rfl) (by kernel_rfl) (by kernel_rfl) (fun _ _ _ h => h) (by assumption) (Or.inl ⟨by rfl, ?hy2⟩) (fun _ => rfl) ?rest2
        case hy2 => (intro w hSw; (try dsimp only at hSw); go_simp; try with_reducible rfl)
        try simp only [Act.put, List.setIfInBounds_toArray, List.set_cons_zero, List.set_cons_succ]
        refine' ordS_take (i := 3) (oi := { dst := some 47, op := Op.fieldAddr 72 (Operand.tmp 2) 0, type := 0, pos := _, after := #[], guard := none }) (v := _) rfl (by kernel_rfl) (by kernel_rfl) (by kernel_rfl) (by kernel_rfl) (fun _ _ _ h => h) (by assumption) (Or.inl ⟨by rfl, ?hy3⟩) (fun _ => rfl) ?rest3
        case hy3 => (intro w hSw; (try dsimp only at hSw); go_simp; try with_reducible rfl)
        try simp only [Act.put, List.setIfInBounds_toArray, List.set_cons_zero, List.set_cons_succ]
        refine' ordS_take (i := 4) (oi := { dst := some 48, op := Op.load 44 (Operand.tmp 47), type := 44, pos := _, after := #[{ on := 3, ground := Ground.data }], guard := none }) (v := _) rfl (by kernel_rfl) (by kernel_rfl) (by kernel_rfl) (by kernel_rfl) (fun _ _ _ h => h) (by assumption) (Or.inl ⟨by rfl, ?hy4⟩) (fun _ => rfl) ?rest4
        case hy4 => (intro w hSw; (try dsimp only at hSw); go_simp; try with_reducible rfl)
        try simp only [Act.put, List.setIfInBounds_toArray, List.set_cons_zero, List.set_cons_succ]
        refine' ordS_take (i := 5) (oi := { dst := some 49, op := Op.fieldAddr 72 (Operand.tmp 3) 0, type := 0, pos := _, after := #[], guard := none }) (v := _) rfl (by kernel_rfl) (by kernel_rfl) (by kernel_rfl) (by kernel_rfl) (fun _ _ _ h => h) (by assumption) (Or.inl ⟨by rfl, ?hy5⟩) (fun _ => rfl) ?rest5
        case hy5 => (intro w hSw; (try dsimp only at hSw); go_simp; try with_reducible rfl)
        try simp only [Act.put, List.setIfInBounds_toArray, List.set_cons_zero, List.set_cons_succ]
        refine' ordS_take (i := 6) (oi := { dst := some 50, op := Op.load 44 (Operand.tmp 49), type := 44, pos := _, after := #[{ on := 5, ground := Ground.data }], guard := none }) (v := _) rfl (by kernel_rfl) (by kernel_rfl) (by kernel_rfl) (by kernel_rfl) (fun _ _ _ h => h) (by assumption) (Or.inl ⟨by rfl, ?hy6⟩) (fun _ => rfl) ?rest6
        case hy6 => (intro w hSw; (try dsimp only at hSw); go_simp; try with_reducible rfl)
        try simp only [Act.put, List.setIfInBounds_toArray, List.set_cons_zero, List.set_cons_succ]
        obtain ⟨W2, hW2⟩ : ∃ W2, wr.drew = W2 := ⟨_, rfl⟩
        rw [hW2] at hB
        rw [hW2]
        clear hW2 hH f0 f1 g0 g1 zf zg
        cases u
        · refine ordS_one (i := 2) (o := { dst := some 46, op := Op.call { callee := Callee.value (Operand.func 44), args := #[Operand.tmp 44, Operand.tmp 45], argTypes := #[72, 72] }, type := 4, pos := _, after := #[{ on := 0, ground := Ground.data }, { on := 1, ground := Ground.data }], guard := none }) (by kernel_rfl) rfl (by rfl) (fun K hK => ?_)
          go_simp
          refine ⟨trivial, ?_⟩
          with_reducible refine (callsIn_wide.2 (H44.out _ (HR.out.below hB) (HR2.out.below hB) (HT.out.below hB) (HT2.out.below hB))).mono ?_
          rintro e W4 ⟨rfl, hb4⟩
          replace hB := bl_tr hB hb4
          refine hK _ _ (HF.out _ hB) ?_
          have hS101 := HF.out _ hB
          clear hK K hb4
          try simp only [Act.put, List.setIfInBounds_toArray, List.set_cons_zero, List.set_cons_succ]
          refine ordS_one (i := 7) (o := { dst := some 51, op := Op.call { callee := Callee.value (Operand.func 37), args := #[Operand.tmp 48, Operand.tmp 50], argTypes := #[44, 44] }, type := 4, pos := _, after := #[{ on := 4, ground := Ground.data }, { on := 6, ground := Ground.data }, { on := 2, ground := Ground.chain }], guard := none }) (by kernel_rfl) rfl (by rfl) (fun K hK => ?_)
          go_simp
          refine ⟨trivial, ?_⟩
          with_reducible refine (callsIn_wide.2 (H37.out _ (HR.out.below hB) (HR2.out.below hB))).mono ?_
          rintro e W5 ⟨rfl, hb5⟩
          replace hB := bl_tr hB hb5
          refine hK _ _ (HF.out _ hB) ?_
          have hS102 := HF.out _ hB
          clear hK K hb5
          try simp only [Act.put, List.setIfInBounds_toArray, List.set_cons_zero, List.set_cons_succ]
          refine' ordS_take (i := 8) (oi := { dst := some 52, op := Op.move (Operand.tmp 51), type := 4, pos := _, after := #[{ on := 7, ground := Ground.data }, { on := 7, ground := Ground.chain }], guard := none }) (v := _) rfl (by kernel_rfl) (by kernel_rfl) (by kernel_rfl) (by kernel_rfl) (fun _ _ _ h => h) (by assumption) (Or.inl ⟨by rfl, ?hy7⟩) (fun _ => rfl) ?rest7
          case hy7 => (intro w hSw; (try dsimp only at hSw); go_simp; try with_reducible rfl)
          try simp only [Act.put, List.setIfInBounds_toArray, List.set_cons_zero, List.set_cons_succ]
          refine ordS_take (i := 9) (oi := { dst := some 53, op := Op.fieldAddr 72 (Operand.tmp 2) 1, type := 0, pos := _, after := #[{ on := 8, ground := Ground.guard }], guard := some (8, true) }) (v := undef) rfl (by kernel_rfl) (by kernel_rfl) (by kernel_rfl) (by kernel_rfl) (fun _ _ _ h => h) (by assumption) (Or.inr ⟨by rfl, rfl⟩) (fun _ => rfl) ?_
          try simp only [Act.put, List.setIfInBounds_toArray, List.set_cons_zero, List.set_cons_succ]
          refine ordS_take (i := 10) (oi := { dst := some 54, op := Op.load 70 (Operand.tmp 53), type := 70, pos := _, after := #[{ on := 9, ground := Ground.data }, { on := 8, ground := Ground.guard }], guard := some (8, true) }) (v := undef) rfl (by kernel_rfl) (by kernel_rfl) (by kernel_rfl) (by kernel_rfl) (fun _ _ _ h => h) (by assumption) (Or.inr ⟨by rfl, rfl⟩) (fun _ => rfl) ?_
          try simp only [Act.put, List.setIfInBounds_toArray, List.set_cons_zero, List.set_cons_succ]
          refine ordS_take (i := 11) (oi := { dst := some 55, op := Op.fieldAddr 72 (Operand.tmp 3) 1, type := 0, pos := _, after := #[{ on := 8, ground := Ground.guard }], guard := some (8, true) }) (v := undef) rfl (by kernel_rfl) (by kernel_rfl) (by kernel_rfl) (by kernel_rfl) (fun _ _ _ h => h) (by assumption) (Or.inr ⟨by rfl, rfl⟩) (fun _ => rfl) ?_
          try simp only [Act.put, List.setIfInBounds_toArray, List.set_cons_zero, List.set_cons_succ]
          refine ordS_take (i := 12) (oi := { dst := some 56, op := Op.load 70 (Operand.tmp 55), type := 70, pos := _, after := #[{ on := 11, ground := Ground.data }, { on := 8, ground := Ground.guard }], guard := some (8, true) }) (v := undef) rfl (by kernel_rfl) (by kernel_rfl) (by kernel_rfl) (by kernel_rfl) (fun _ _ _ h => h) (by assumption) (Or.inr ⟨by rfl, rfl⟩) (fun _ => rfl) ?_
          try simp only [Act.put, List.setIfInBounds_toArray, List.set_cons_zero, List.set_cons_succ]
          refine ordS_skip (i := 13) (o := { dst := some 57, op := Op.call { callee := Callee.value (Operand.func 38), args := #[Operand.tmp 54, Operand.tmp 56], argTypes := #[70, 70] }, type := 4, pos := _, after := #[{ on := 10, ground := Ground.data }, { on := 12, ground := Ground.data }, { on := 8, ground := Ground.chain }, { on := 8, ground := Ground.guard }], guard := some (8, true) }) (by kernel_rfl) rfl (by rfl) (fun _ => trivial) (HF.out _ hB) ?_
          try simp only [Act.put, List.setIfInBounds_toArray, List.set_cons_zero, List.set_cons_succ]
          have hS14 := HF.out _ hB
          refine' ordS_take (i := 14) (oi := { dst := some 58, op := Op.pick (Operand.tmp 52) (Operand.tmp 57) (Operand.const (Value.bool false)), type := 4, pos := _, after := #[{ on := 8, ground := Ground.data }, { on := 13, ground := Ground.data }], guard := none }) (v := _) rfl (by kernel_rfl) (by kernel_rfl) (by kernel_rfl) (by kernel_rfl) (fun _ _ _ h => h) (by assumption) (Or.inl ⟨by rfl, ?hy12⟩) (fun _ => rfl) ?rest12
          case hy12 => (intro w hSw; (try dsimp only at hSw); go_simp; try with_reducible rfl)
          try simp only [Act.put, List.setIfInBounds_toArray, List.set_cons_zero, List.set_cons_succ]
          refine' ordS_take (i := 15) (oi := { dst := some 59, op := Op.binOp BinOp.eql 4 (Operand.tmp 46) (Operand.tmp 58) 4, type := 4, pos := _, after := #[{ on := 2, ground := Ground.data }, { on := 14, ground := Ground.data }], guard := none }) (v := _) rfl (by kernel_rfl) (by kernel_rfl) (by kernel_rfl) (by kernel_rfl) (fun _ _ _ h => h) (by assumption) (Or.inl ⟨by rfl, ?hy13⟩) (fun _ => rfl) ?rest13
          case hy13 => (intro w hSw; (try dsimp only at hSw); go_simp; try with_reducible rfl)
          try simp only [Act.put, List.setIfInBounds_toArray, List.set_cons_zero, List.set_cons_succ]
          refine' ordS_take (i := 16) (oi := { dst := some 60, op := Op.move (Operand.tmp 59), type := 4, pos := _, after := #[{ on := 15, ground := Ground.data }, { on := 13, ground := Ground.chain }], guard := none }) (v := _) rfl (by kernel_rfl) (by kernel_rfl) (by kernel_rfl) (by kernel_rfl) (fun _ _ _ h => h) (by assumption) (Or.inl ⟨by rfl, ?hy14⟩) (fun _ => rfl) ?rest14
          case hy14 => (intro w hSw; (try dsimp only at hSw); go_simp; try with_reducible rfl)
          try simp only [Act.put, List.setIfInBounds_toArray, List.set_cons_zero, List.set_cons_succ]
          refine' ordS_take (i := 17) (oi := { dst := some 61, op := Op.load 72 (Operand.tmp 2), type := 72, pos := _, after := #[{ on := 16, ground := Ground.guard }], guard := some (16, true) }) (v := _) rfl (by kernel_rfl) (by kernel_rfl) (by kernel_rfl) (by kernel_rfl) (fun _ _ _ h => h) (by assumption) (Or.inl ⟨by rfl, ?hy15⟩) (fun _ => rfl) ?rest15
          case hy15 => (intro w hSw; (try dsimp only at hSw); go_simp; try with_reducible rfl)
          try simp only [Act.put, List.setIfInBounds_toArray, List.set_cons_zero, List.set_cons_succ]
          refine' ordS_take (i := 18) (oi := { dst := some 62, op := Op.load 72 (Operand.tmp 2), type := 72, pos := _, after := #[{ on := 16, ground := Ground.guard }], guard := some (16, true) }) (v := _) rfl (by kernel_rfl) (by kernel_rfl) (by kernel_rfl) (by kernel_rfl) (fun _ _ _ h => h) (by assumption) (Or.inl ⟨by rfl, ?hy16⟩) (fun _ => rfl) ?rest16
          case hy16 => (intro w hSw; (try dsimp only at hSw); go_simp; try with_reducible rfl)
          try simp only [Act.put, List.setIfInBounds_toArray, List.set_cons_zero, List.set_cons_succ]
          refine ordS_one (i := 19) (o := { dst := some 63, op := Op.call { callee := Callee.value (Operand.func 44), args := #[Operand.tmp 61, Operand.tmp 62], argTypes := #[72, 72] }, type := 4, pos := _, after := #[{ on := 17, ground := Ground.data }, { on := 18, ground := Ground.data }, { on := 16, ground := Ground.chain }, { on := 16, ground := Ground.guard }], guard := some (16, true) }) (by kernel_rfl) rfl (by rfl) (fun K hK => ?_)
          go_simp
          refine ⟨trivial, ?_⟩
          with_reducible refine (callsIn_wide.2 (H44s.out _ (HR.out.below hB) (HR.out.below hB) (HT.out.below hB) (HT.out.below hB))).mono ?_
          rintro e W7 ⟨rfl, hb7⟩
          replace hB := bl_tr hB hb7
          refine hK _ _ (HF.out _ hB) ?_
          have hS103 := HF.out _ hB
          clear hK K hb7
          try simp only [Act.put, List.setIfInBounds_toArray, List.set_cons_zero, List.set_cons_succ]
          refine' ordS_take (i := 20) (oi := { dst := some 64, op := Op.pick (Operand.tmp 60) (Operand.tmp 63) (Operand.const (Value.bool false)), type := 4, pos := _, after := #[{ on := 16, ground := Ground.data }, { on := 19, ground := Ground.data }], guard := none }) (v := _) rfl (by kernel_rfl) (by kernel_rfl) (by kernel_rfl) (by kernel_rfl) (fun _ _ _ h => h) (by assumption) (Or.inl ⟨by rfl, ?hy17⟩) (fun _ => rfl) ?rest17
          case hy17 => (intro w hSw; (try dsimp only at hSw); go_simp; try with_reducible rfl)
          try simp only [Act.put, List.setIfInBounds_toArray, List.set_cons_zero, List.set_cons_succ]
          refine' ordS_take (i := 21) (oi := { dst := some 65, op := Op.move (Operand.tmp 64), type := 4, pos := _, after := #[{ on := 20, ground := Ground.data }, { on := 19, ground := Ground.chain }], guard := none }) (v := _) rfl (by kernel_rfl) (by kernel_rfl) (by kernel_rfl) (by kernel_rfl) (fun _ _ _ h => h) (by assumption) (Or.inl ⟨by rfl, ?hy18⟩) (fun _ => rfl) ?rest18
          case hy18 => (intro w hSw; (try dsimp only at hSw); go_simp; try with_reducible rfl)
          try simp only [Act.put, List.setIfInBounds_toArray, List.set_cons_zero, List.set_cons_succ]
          refine ordS_one (i := 22) (o := { dst := some 66, op := Op.call { callee := Callee.value (Operand.func 33), args := #[], argTypes := #[] }, type := 4, pos := _, after := #[{ on := 21, ground := Ground.chain }, { on := 21, ground := Ground.guard }], guard := some (21, true) }) (by kernel_rfl) rfl (by rfl) (fun K hK => ?_)
          go_simp
          refine ⟨trivial, ?_⟩
          with_reducible refine (callsIn_wide.2 (awake13 _ (HST.out.below hB))).mono ?_
          rintro e W8 ⟨rfl, hb8⟩
          replace hB := bl_tr hB hb8
          refine hK _ _ (HF.out _ hB) ?_
          have hS104 := HF.out _ hB
          clear hK K hb8
          try simp only [Act.put, List.setIfInBounds_toArray, List.set_cons_zero, List.set_cons_succ]
          refine' ordS_take (i := 23) (oi := { dst := some 67, op := Op.pick (Operand.tmp 65) (Operand.tmp 66) (Operand.const (Value.bool false)), type := 4, pos := _, after := #[{ on := 21, ground := Ground.data }, { on := 22, ground := Ground.data }], guard := none }) (v := _) rfl (by kernel_rfl) (by kernel_rfl) (by kernel_rfl) (by kernel_rfl) (fun _ _ _ h => h) (by assumption) (Or.inl ⟨by rfl, ?hy19⟩) (fun _ => rfl) ?rest19
          case hy19 => (intro w hSw; (try dsimp only at hSw); go_simp; try with_reducible rfl)
          try simp only [Act.put, List.setIfInBounds_toArray, List.set_cons_zero, List.set_cons_succ]
          refine' ordS_take (i := 24) (oi := { dst := some 4, op := Op.assign (Operand.tmp 67), type := 4, pos := _, after := #[{ on := 23, ground := Ground.data }, { on := 22, ground := Ground.chain }, { on := 0, ground := Ground.phase }, { on := 1, ground := Ground.phase }, { on := 2, ground := Ground.phase }, { on := 3, ground := Ground.phase }, { on := 4, ground := Ground.phase }, { on := 5, ground := Ground.phase }, { on := 6, ground := Ground.phase }, { on := 7, ground := Ground.phase }, { on := 8, ground := Ground.phase }, { on := 9, ground := Ground.phase }, { on := 10, ground := Ground.phase }, { on := 11, ground := Ground.phase }, { on := 12, ground := Ground.phase }, { on := 13, ground := Ground.phase }, { on := 14, ground := Ground.phase }, { on := 15, ground := Ground.phase }, { on := 16, ground := Ground.phase }, { on := 17, ground := Ground.phase }, { on := 18, ground := Ground.phase }, { on := 19, ground := Ground.phase }, { on := 20, ground := Ground.phase }, { on := 21, ground := Ground.phase }, { on := 22, ground := Ground.phase }, { on := 23, ground := Ground.phase }], guard := none }) (v := _) rfl (by kernel_rfl) (by kernel_rfl) (by kernel_rfl) (by kernel_rfl) (fun _ _ _ h => h) (by assumption) (Or.inl ⟨by rfl, ?hy20⟩) (fun _ => rfl) ?rest20
          case hy20 => (intro w hSw; (try dsimp only at hSw); go_simp; try with_reducible rfl)
          try simp only [Act.put, List.setIfInBounds_toArray, List.set_cons_zero, List.set_cons_succ]
          refine ordS_done (by kernel_rfl) ?_
          go_wp2
          go_ret
          exact ⟨rfl, bl_tr HA0.out hB⟩

        · cases v
          · refine ordS_one (i := 2) (o := { dst := some 46, op := Op.call { callee := Callee.value (Operand.func 44), args := #[Operand.tmp 44, Operand.tmp 45], argTypes := #[72, 72] }, type := 4, pos := _, after := #[{ on := 0, ground := Ground.data }, { on := 1, ground := Ground.data }], guard := none }) (by kernel_rfl) rfl (by rfl) (fun K hK => ?_)
            go_simp
            refine ⟨trivial, ?_⟩
            with_reducible refine (callsIn_wide.2 (H44.out _ (HR.out.below hB) (HR2.out.below hB) (HT.out.below hB) (HT2.out.below hB))).mono ?_
            rintro e W4 ⟨rfl, hb4⟩
            replace hB := bl_tr hB hb4
            refine hK _ _ (HF.out _ hB) ?_
            have hS105 := HF.out _ hB
            clear hK K hb4
            try simp only [Act.put, List.setIfInBounds_toArray, List.set_cons_zero, List.set_cons_succ]
            refine ordS_one (i := 7) (o := { dst := some 51, op := Op.call { callee := Callee.value (Operand.func 37), args := #[Operand.tmp 48, Operand.tmp 50], argTypes := #[44, 44] }, type := 4, pos := _, after := #[{ on := 4, ground := Ground.data }, { on := 6, ground := Ground.data }, { on := 2, ground := Ground.chain }], guard := none }) (by kernel_rfl) rfl (by rfl) (fun K hK => ?_)
            go_simp
            refine ⟨trivial, ?_⟩
            with_reducible refine (callsIn_wide.2 (H37.out _ (HR.out.below hB) (HR2.out.below hB))).mono ?_
            rintro e W5 ⟨rfl, hb5⟩
            replace hB := bl_tr hB hb5
            refine hK _ _ (HF.out _ hB) ?_
            have hS106 := HF.out _ hB
            clear hK K hb5
            try simp only [Act.put, List.setIfInBounds_toArray, List.set_cons_zero, List.set_cons_succ]
            refine' ordS_take (i := 8) (oi := { dst := some 52, op := Op.move (Operand.tmp 51), type := 4, pos := _, after := #[{ on := 7, ground := Ground.data }, { on := 7, ground := Ground.chain }], guard := none }) (v := _) rfl (by kernel_rfl) (by kernel_rfl) (by kernel_rfl) (by kernel_rfl) (fun _ _ _ h => h) (by assumption) (Or.inl ⟨by rfl, ?hy21⟩) (fun _ => rfl) ?rest21
            case hy21 => (intro w hSw; (try dsimp only at hSw); go_simp; try with_reducible rfl)
            try simp only [Act.put, List.setIfInBounds_toArray, List.set_cons_zero, List.set_cons_succ]
            refine' ordS_take (i := 9) (oi := { dst := some 53, op := Op.fieldAddr 72 (Operand.tmp 2) 1, type := 0, pos := _, after := #[{ on := 8, ground := Ground.guard }], guard := some (8, true) }) (v := _) rfl (by kernel_rfl) (by kernel_rfl) (by kernel_rfl) (by kernel_rfl) (fun _ _ _ h => h) (by assumption) (Or.inl ⟨by rfl, ?hy22⟩) (fun _ => rfl) ?rest22
            case hy22 => (intro w hSw; (try dsimp only at hSw); go_simp; try with_reducible rfl)
            try simp only [Act.put, List.setIfInBounds_toArray, List.set_cons_zero, List.set_cons_succ]
            refine' ordS_take (i := 10) (oi := { dst := some 54, op := Op.load 70 (Operand.tmp 53), type := 70, pos := _, after := #[{ on := 9, ground := Ground.data }, { on := 8, ground := Ground.guard }], guard := some (8, true) }) (v := _) rfl (by kernel_rfl) (by kernel_rfl) (by kernel_rfl) (by kernel_rfl) (fun _ _ _ h => h) (by assumption) (Or.inl ⟨by rfl, ?hy23⟩) (fun _ => rfl) ?rest23
            case hy23 => (intro w hSw; (try dsimp only at hSw); go_simp; try with_reducible rfl)
            try simp only [Act.put, List.setIfInBounds_toArray, List.set_cons_zero, List.set_cons_succ]
            refine' ordS_take (i := 11) (oi := { dst := some 55, op := Op.fieldAddr 72 (Operand.tmp 3) 1, type := 0, pos := _, after := #[{ on := 8, ground := Ground.guard }], guard := some (8, true) }) (v := _) rfl (by kernel_rfl) (by kernel_rfl) (by kernel_rfl) (by kernel_rfl) (fun _ _ _ h => h) (by assumption) (Or.inl ⟨by rfl, ?hy24⟩) (fun _ => rfl) ?rest24
            case hy24 => (intro w hSw; (try dsimp only at hSw); go_simp; try with_reducible rfl)
            try simp only [Act.put, List.setIfInBounds_toArray, List.set_cons_zero, List.set_cons_succ]
            refine' ordS_take (i := 12) (oi := { dst := some 56, op := Op.load 70 (Operand.tmp 55), type := 70, pos := _, after := #[{ on := 11, ground := Ground.data }, { on := 8, ground := Ground.guard }], guard := some (8, true) }) (v := _) rfl (by kernel_rfl) (by kernel_rfl) (by kernel_rfl) (by kernel_rfl) (fun _ _ _ h => h) (by assumption) (Or.inl ⟨by rfl, ?hy25⟩) (fun _ => rfl) ?rest25
            case hy25 => (intro w hSw; (try dsimp only at hSw); go_simp; try with_reducible rfl)
            try simp only [Act.put, List.setIfInBounds_toArray, List.set_cons_zero, List.set_cons_succ]
            refine ordS_one (i := 13) (o := { dst := some 57, op := Op.call { callee := Callee.value (Operand.func 38), args := #[Operand.tmp 54, Operand.tmp 56], argTypes := #[70, 70] }, type := 4, pos := _, after := #[{ on := 10, ground := Ground.data }, { on := 12, ground := Ground.data }, { on := 8, ground := Ground.chain }, { on := 8, ground := Ground.guard }], guard := some (8, true) }) (by kernel_rfl) rfl (by rfl) (fun K hK => ?_)
            go_simp
            refine ⟨trivial, ?_⟩
            with_reducible refine (callsIn_wide.2 (H38.out _ (HT.out.below hB) (HT2.out.below hB))).mono ?_
            rintro e W6 ⟨rfl, hb6⟩
            replace hB := bl_tr hB hb6
            refine hK _ _ (HF.out _ hB) ?_
            have hS107 := HF.out _ hB
            clear hK K hb6
            try simp only [Act.put, List.setIfInBounds_toArray, List.set_cons_zero, List.set_cons_succ]
            have hS14 := HF.out _ hB
            refine' ordS_take (i := 14) (oi := { dst := some 58, op := Op.pick (Operand.tmp 52) (Operand.tmp 57) (Operand.const (Value.bool false)), type := 4, pos := _, after := #[{ on := 8, ground := Ground.data }, { on := 13, ground := Ground.data }], guard := none }) (v := _) rfl (by kernel_rfl) (by kernel_rfl) (by kernel_rfl) (by kernel_rfl) (fun _ _ _ h => h) (by assumption) (Or.inl ⟨by rfl, ?hy26⟩) (fun _ => rfl) ?rest26
            case hy26 => (intro w hSw; (try dsimp only at hSw); go_simp; try with_reducible rfl)
            try simp only [Act.put, List.setIfInBounds_toArray, List.set_cons_zero, List.set_cons_succ]
            refine' ordS_take (i := 15) (oi := { dst := some 59, op := Op.binOp BinOp.eql 4 (Operand.tmp 46) (Operand.tmp 58) 4, type := 4, pos := _, after := #[{ on := 2, ground := Ground.data }, { on := 14, ground := Ground.data }], guard := none }) (v := _) rfl (by kernel_rfl) (by kernel_rfl) (by kernel_rfl) (by kernel_rfl) (fun _ _ _ h => h) (by assumption) (Or.inl ⟨by rfl, ?hy27⟩) (fun _ => rfl) ?rest27
            case hy27 => (intro w hSw; (try dsimp only at hSw); go_simp; try with_reducible rfl)
            try simp only [Act.put, List.setIfInBounds_toArray, List.set_cons_zero, List.set_cons_succ]
            refine' ordS_take (i := 16) (oi := { dst := some 60, op := Op.move (Operand.tmp 59), type := 4, pos := _, after := #[{ on := 15, ground := Ground.data }, { on := 13, ground := Ground.chain }], guard := none }) (v := _) rfl (by kernel_rfl) (by kernel_rfl) (by kernel_rfl) (by kernel_rfl) (fun _ _ _ h => h) (by assumption) (Or.inl ⟨by rfl, ?hy28⟩) (fun _ => rfl) ?rest28
            case hy28 => (intro w hSw; (try dsimp only at hSw); go_simp; try with_reducible rfl)
            try simp only [Act.put, List.setIfInBounds_toArray, List.set_cons_zero, List.set_cons_succ]
            refine' ordS_take (i := 17) (oi := { dst := some 61, op := Op.load 72 (Operand.tmp 2), type := 72, pos := _, after := #[{ on := 16, ground := Ground.guard }], guard := some (16, true) }) (v := _) rfl (by kernel_rfl) (by kernel_rfl) (by kernel_rfl) (by kernel_rfl) (fun _ _ _ h => h) (by assumption) (Or.inl ⟨by rfl, ?hy29⟩) (fun _ => rfl) ?rest29
            case hy29 => (intro w hSw; (try dsimp only at hSw); go_simp; try with_reducible rfl)
            try simp only [Act.put, List.setIfInBounds_toArray, List.set_cons_zero, List.set_cons_succ]
            refine' ordS_take (i := 18) (oi := { dst := some 62, op := Op.load 72 (Operand.tmp 2), type := 72, pos := _, after := #[{ on := 16, ground := Ground.guard }], guard := some (16, true) }) (v := _) rfl (by kernel_rfl) (by kernel_rfl) (by kernel_rfl) (by kernel_rfl) (fun _ _ _ h => h) (by assumption) (Or.inl ⟨by rfl, ?hy30⟩) (fun _ => rfl) ?rest30
            case hy30 => (intro w hSw; (try dsimp only at hSw); go_simp; try with_reducible rfl)
            try simp only [Act.put, List.setIfInBounds_toArray, List.set_cons_zero, List.set_cons_succ]
            refine ordS_one (i := 19) (o := { dst := some 63, op := Op.call { callee := Callee.value (Operand.func 44), args := #[Operand.tmp 61, Operand.tmp 62], argTypes := #[72, 72] }, type := 4, pos := _, after := #[{ on := 17, ground := Ground.data }, { on := 18, ground := Ground.data }, { on := 16, ground := Ground.chain }, { on := 16, ground := Ground.guard }], guard := some (16, true) }) (by kernel_rfl) rfl (by rfl) (fun K hK => ?_)
            go_simp
            refine ⟨trivial, ?_⟩
            with_reducible refine (callsIn_wide.2 (H44s.out _ (HR.out.below hB) (HR.out.below hB) (HT.out.below hB) (HT.out.below hB))).mono ?_
            rintro e W7 ⟨rfl, hb7⟩
            replace hB := bl_tr hB hb7
            refine hK _ _ (HF.out _ hB) ?_
            have hS108 := HF.out _ hB
            clear hK K hb7
            try simp only [Act.put, List.setIfInBounds_toArray, List.set_cons_zero, List.set_cons_succ]
            refine' ordS_take (i := 20) (oi := { dst := some 64, op := Op.pick (Operand.tmp 60) (Operand.tmp 63) (Operand.const (Value.bool false)), type := 4, pos := _, after := #[{ on := 16, ground := Ground.data }, { on := 19, ground := Ground.data }], guard := none }) (v := _) rfl (by kernel_rfl) (by kernel_rfl) (by kernel_rfl) (by kernel_rfl) (fun _ _ _ h => h) (by assumption) (Or.inl ⟨by rfl, ?hy31⟩) (fun _ => rfl) ?rest31
            case hy31 => (intro w hSw; (try dsimp only at hSw); go_simp; try with_reducible rfl)
            try simp only [Act.put, List.setIfInBounds_toArray, List.set_cons_zero, List.set_cons_succ]
            refine' ordS_take (i := 21) (oi := { dst := some 65, op := Op.move (Operand.tmp 64), type := 4, pos := _, after := #[{ on := 20, ground := Ground.data }, { on := 19, ground := Ground.chain }], guard := none }) (v := _) rfl (by kernel_rfl) (by kernel_rfl) (by kernel_rfl) (by kernel_rfl) (fun _ _ _ h => h) (by assumption) (Or.inl ⟨by rfl, ?hy32⟩) (fun _ => rfl) ?rest32
            case hy32 => (intro w hSw; (try dsimp only at hSw); go_simp; try with_reducible rfl)
            try simp only [Act.put, List.setIfInBounds_toArray, List.set_cons_zero, List.set_cons_succ]
            refine ordS_one (i := 22) (o := { dst := some 66, op := Op.call { callee := Callee.value (Operand.func 33), args := #[], argTypes := #[] }, type := 4, pos := _, after := #[{ on := 21, ground := Ground.chain }, { on := 21, ground := Ground.guard }], guard := some (21, true) }) (by kernel_rfl) rfl (by rfl) (fun K hK => ?_)
            go_simp
            refine ⟨trivial, ?_⟩
            with_reducible refine (callsIn_wide.2 (awake13 _ (HST.out.below hB))).mono ?_
            rintro e W8 ⟨rfl, hb8⟩
            replace hB := bl_tr hB hb8
            refine hK _ _ (HF.out _ hB) ?_
            have hS109 := HF.out _ hB
            clear hK K hb8
            try simp only [Act.put, List.setIfInBounds_toArray, List.set_cons_zero, List.set_cons_succ]
            refine' ordS_take (i := 23) (oi := { dst := some 67, op := Op.pick (Operand.tmp 65) (Operand.tmp 66) (Operand.const (Value.bool false)), type := 4, pos := _, after := #[{ on := 21, ground := Ground.data }, { on := 22, ground := Ground.data }], guard := none }) (v := _) rfl (by kernel_rfl) (by kernel_rfl) (by kernel_rfl) (by kernel_rfl) (fun _ _ _ h => h) (by assumption) (Or.inl ⟨by rfl, ?hy33⟩) (fun _ => rfl) ?rest33
            case hy33 => (intro w hSw; (try dsimp only at hSw); go_simp; try with_reducible rfl)
            try simp only [Act.put, List.setIfInBounds_toArray, List.set_cons_zero, List.set_cons_succ]
            refine' ordS_take (i := 24) (oi := { dst := some 4, op := Op.assign (Operand.tmp 67), type := 4, pos := _, after := #[{ on := 23, ground := Ground.data }, { on := 22, ground := Ground.chain }, { on := 0, ground := Ground.phase }, { on := 1, ground := Ground.phase }, { on := 2, ground := Ground.phase }, { on := 3, ground := Ground.phase }, { on := 4, ground := Ground.phase }, { on := 5, ground := Ground.phase }, { on := 6, ground := Ground.phase }, { on := 7, ground := Ground.phase }, { on := 8, ground := Ground.phase }, { on := 9, ground := Ground.phase }, { on := 10, ground := Ground.phase }, { on := 11, ground := Ground.phase }, { on := 12, ground := Ground.phase }, { on := 13, ground := Ground.phase }, { on := 14, ground := Ground.phase }, { on := 15, ground := Ground.phase }, { on := 16, ground := Ground.phase }, { on := 17, ground := Ground.phase }, { on := 18, ground := Ground.phase }, { on := 19, ground := Ground.phase }, { on := 20, ground := Ground.phase }, { on := 21, ground := Ground.phase }, { on := 22, ground := Ground.phase }, { on := 23, ground := Ground.phase }], guard := none }) (v := _) rfl (by kernel_rfl) (by kernel_rfl) (by kernel_rfl) (by kernel_rfl) (fun _ _ _ h => h) (by assumption) (Or.inl ⟨by rfl, ?hy34⟩) (fun _ => rfl) ?rest34
            case hy34 => (intro w hSw; (try dsimp only at hSw); go_simp; try with_reducible rfl)
            try simp only [Act.put, List.setIfInBounds_toArray, List.set_cons_zero, List.set_cons_succ]
            refine ordS_done (by kernel_rfl) ?_
            go_wp2
            go_ret
            exact ⟨rfl, bl_tr HA0.out hB⟩

          · refine ordS_one (i := 2) (o := { dst := some 46, op := Op.call { callee := Callee.value (Operand.func 44), args := #[Operand.tmp 44, Operand.tmp 45], argTypes := #[72, 72] }, type := 4, pos := _, after := #[{ on := 0, ground := Ground.data }, { on := 1, ground := Ground.data }], guard := none }) (by kernel_rfl) rfl (by rfl) (fun K hK => ?_)
            go_simp
            refine ⟨trivial, ?_⟩
            with_reducible refine (callsIn_wide.2 (H44.out _ (HR.out.below hB) (HR2.out.below hB) (HT.out.below hB) (HT2.out.below hB))).mono ?_
            rintro e W4 ⟨rfl, hb4⟩
            replace hB := bl_tr hB hb4
            refine hK _ _ (HF.out _ hB) ?_
            have hS110 := HF.out _ hB
            clear hK K hb4
            try simp only [Act.put, List.setIfInBounds_toArray, List.set_cons_zero, List.set_cons_succ]
            refine ordS_one (i := 7) (o := { dst := some 51, op := Op.call { callee := Callee.value (Operand.func 37), args := #[Operand.tmp 48, Operand.tmp 50], argTypes := #[44, 44] }, type := 4, pos := _, after := #[{ on := 4, ground := Ground.data }, { on := 6, ground := Ground.data }, { on := 2, ground := Ground.chain }], guard := none }) (by kernel_rfl) rfl (by rfl) (fun K hK => ?_)
            go_simp
            refine ⟨trivial, ?_⟩
            with_reducible refine (callsIn_wide.2 (H37.out _ (HR.out.below hB) (HR2.out.below hB))).mono ?_
            rintro e W5 ⟨rfl, hb5⟩
            replace hB := bl_tr hB hb5
            refine hK _ _ (HF.out _ hB) ?_
            have hS111 := HF.out _ hB
            clear hK K hb5
            try simp only [Act.put, List.setIfInBounds_toArray, List.set_cons_zero, List.set_cons_succ]
            refine' ordS_take (i := 8) (oi := { dst := some 52, op := Op.move (Operand.tmp 51), type := 4, pos := _, after := #[{ on := 7, ground := Ground.data }, { on := 7, ground := Ground.chain }], guard := none }) (v := _) rfl (by kernel_rfl) (by kernel_rfl) (by kernel_rfl) (by kernel_rfl) (fun _ _ _ h => h) (by assumption) (Or.inl ⟨by rfl, ?hy35⟩) (fun _ => rfl) ?rest35
            case hy35 => (intro w hSw; (try dsimp only at hSw); go_simp; try with_reducible rfl)
            try simp only [Act.put, List.setIfInBounds_toArray, List.set_cons_zero, List.set_cons_succ]
            refine' ordS_take (i := 9) (oi := { dst := some 53, op := Op.fieldAddr 72 (Operand.tmp 2) 1, type := 0, pos := _, after := #[{ on := 8, ground := Ground.guard }], guard := some (8, true) }) (v := _) rfl (by kernel_rfl) (by kernel_rfl) (by kernel_rfl) (by kernel_rfl) (fun _ _ _ h => h) (by assumption) (Or.inl ⟨by rfl, ?hy36⟩) (fun _ => rfl) ?rest36
            case hy36 => (intro w hSw; (try dsimp only at hSw); go_simp; try with_reducible rfl)
            try simp only [Act.put, List.setIfInBounds_toArray, List.set_cons_zero, List.set_cons_succ]
            refine' ordS_take (i := 10) (oi := { dst := some 54, op := Op.load 70 (Operand.tmp 53), type := 70, pos := _, after := #[{ on := 9, ground := Ground.data }, { on := 8, ground := Ground.guard }], guard := some (8, true) }) (v := _) rfl (by kernel_rfl) (by kernel_rfl) (by kernel_rfl) (by kernel_rfl) (fun _ _ _ h => h) (by assumption) (Or.inl ⟨by rfl, ?hy37⟩) (fun _ => rfl) ?rest37
            case hy37 => (intro w hSw; (try dsimp only at hSw); go_simp; try with_reducible rfl)
            try simp only [Act.put, List.setIfInBounds_toArray, List.set_cons_zero, List.set_cons_succ]
            refine' ordS_take (i := 11) (oi := { dst := some 55, op := Op.fieldAddr 72 (Operand.tmp 3) 1, type := 0, pos := _, after := #[{ on := 8, ground := Ground.guard }], guard := some (8, true) }) (v := _) rfl (by kernel_rfl) (by kernel_rfl) (by kernel_rfl) (by kernel_rfl) (fun _ _ _ h => h) (by assumption) (Or.inl ⟨by rfl, ?hy38⟩) (fun _ => rfl) ?rest38
            case hy38 => (intro w hSw; (try dsimp only at hSw); go_simp; try with_reducible rfl)
            try simp only [Act.put, List.setIfInBounds_toArray, List.set_cons_zero, List.set_cons_succ]
            refine' ordS_take (i := 12) (oi := { dst := some 56, op := Op.load 70 (Operand.tmp 55), type := 70, pos := _, after := #[{ on := 11, ground := Ground.data }, { on := 8, ground := Ground.guard }], guard := some (8, true) }) (v := _) rfl (by kernel_rfl) (by kernel_rfl) (by kernel_rfl) (by kernel_rfl) (fun _ _ _ h => h) (by assumption) (Or.inl ⟨by rfl, ?hy39⟩) (fun _ => rfl) ?rest39
            case hy39 => (intro w hSw; (try dsimp only at hSw); go_simp; try with_reducible rfl)
            try simp only [Act.put, List.setIfInBounds_toArray, List.set_cons_zero, List.set_cons_succ]
            refine ordS_one (i := 13) (o := { dst := some 57, op := Op.call { callee := Callee.value (Operand.func 38), args := #[Operand.tmp 54, Operand.tmp 56], argTypes := #[70, 70] }, type := 4, pos := _, after := #[{ on := 10, ground := Ground.data }, { on := 12, ground := Ground.data }, { on := 8, ground := Ground.chain }, { on := 8, ground := Ground.guard }], guard := some (8, true) }) (by kernel_rfl) rfl (by rfl) (fun K hK => ?_)
            go_simp
            refine ⟨trivial, ?_⟩
            with_reducible refine (callsIn_wide.2 (H38.out _ (HT.out.below hB) (HT2.out.below hB))).mono ?_
            rintro e W6 ⟨rfl, hb6⟩
            replace hB := bl_tr hB hb6
            refine hK _ _ (HF.out _ hB) ?_
            have hS112 := HF.out _ hB
            clear hK K hb6
            try simp only [Act.put, List.setIfInBounds_toArray, List.set_cons_zero, List.set_cons_succ]
            have hS14 := HF.out _ hB
            refine' ordS_take (i := 14) (oi := { dst := some 58, op := Op.pick (Operand.tmp 52) (Operand.tmp 57) (Operand.const (Value.bool false)), type := 4, pos := _, after := #[{ on := 8, ground := Ground.data }, { on := 13, ground := Ground.data }], guard := none }) (v := _) rfl (by kernel_rfl) (by kernel_rfl) (by kernel_rfl) (by kernel_rfl) (fun _ _ _ h => h) (by assumption) (Or.inl ⟨by rfl, ?hy40⟩) (fun _ => rfl) ?rest40
            case hy40 => (intro w hSw; (try dsimp only at hSw); go_simp; try with_reducible rfl)
            try simp only [Act.put, List.setIfInBounds_toArray, List.set_cons_zero, List.set_cons_succ]
            refine' ordS_take (i := 15) (oi := { dst := some 59, op := Op.binOp BinOp.eql 4 (Operand.tmp 46) (Operand.tmp 58) 4, type := 4, pos := _, after := #[{ on := 2, ground := Ground.data }, { on := 14, ground := Ground.data }], guard := none }) (v := _) rfl (by kernel_rfl) (by kernel_rfl) (by kernel_rfl) (by kernel_rfl) (fun _ _ _ h => h) (by assumption) (Or.inl ⟨by rfl, ?hy41⟩) (fun _ => rfl) ?rest41
            case hy41 => (intro w hSw; (try dsimp only at hSw); go_simp; try with_reducible rfl)
            try simp only [Act.put, List.setIfInBounds_toArray, List.set_cons_zero, List.set_cons_succ]
            refine' ordS_take (i := 16) (oi := { dst := some 60, op := Op.move (Operand.tmp 59), type := 4, pos := _, after := #[{ on := 15, ground := Ground.data }, { on := 13, ground := Ground.chain }], guard := none }) (v := _) rfl (by kernel_rfl) (by kernel_rfl) (by kernel_rfl) (by kernel_rfl) (fun _ _ _ h => h) (by assumption) (Or.inl ⟨by rfl, ?hy42⟩) (fun _ => rfl) ?rest42
            case hy42 => (intro w hSw; (try dsimp only at hSw); go_simp; try with_reducible rfl)
            try simp only [Act.put, List.setIfInBounds_toArray, List.set_cons_zero, List.set_cons_succ]
            refine' ordS_take (i := 17) (oi := { dst := some 61, op := Op.load 72 (Operand.tmp 2), type := 72, pos := _, after := #[{ on := 16, ground := Ground.guard }], guard := some (16, true) }) (v := _) rfl (by kernel_rfl) (by kernel_rfl) (by kernel_rfl) (by kernel_rfl) (fun _ _ _ h => h) (by assumption) (Or.inl ⟨by rfl, ?hy43⟩) (fun _ => rfl) ?rest43
            case hy43 => (intro w hSw; (try dsimp only at hSw); go_simp; try with_reducible rfl)
            try simp only [Act.put, List.setIfInBounds_toArray, List.set_cons_zero, List.set_cons_succ]
            refine' ordS_take (i := 18) (oi := { dst := some 62, op := Op.load 72 (Operand.tmp 2), type := 72, pos := _, after := #[{ on := 16, ground := Ground.guard }], guard := some (16, true) }) (v := _) rfl (by kernel_rfl) (by kernel_rfl) (by kernel_rfl) (by kernel_rfl) (fun _ _ _ h => h) (by assumption) (Or.inl ⟨by rfl, ?hy44⟩) (fun _ => rfl) ?rest44
            case hy44 => (intro w hSw; (try dsimp only at hSw); go_simp; try with_reducible rfl)
            try simp only [Act.put, List.setIfInBounds_toArray, List.set_cons_zero, List.set_cons_succ]
            refine ordS_one (i := 19) (o := { dst := some 63, op := Op.call { callee := Callee.value (Operand.func 44), args := #[Operand.tmp 61, Operand.tmp 62], argTypes := #[72, 72] }, type := 4, pos := _, after := #[{ on := 17, ground := Ground.data }, { on := 18, ground := Ground.data }, { on := 16, ground := Ground.chain }, { on := 16, ground := Ground.guard }], guard := some (16, true) }) (by kernel_rfl) rfl (by rfl) (fun K hK => ?_)
            go_simp
            refine ⟨trivial, ?_⟩
            with_reducible refine (callsIn_wide.2 (H44s.out _ (HR.out.below hB) (HR.out.below hB) (HT.out.below hB) (HT.out.below hB))).mono ?_
            rintro e W7 ⟨rfl, hb7⟩
            replace hB := bl_tr hB hb7
            refine hK _ _ (HF.out _ hB) ?_
            have hS113 := HF.out _ hB
            clear hK K hb7
            try simp only [Act.put, List.setIfInBounds_toArray, List.set_cons_zero, List.set_cons_succ]
            refine' ordS_take (i := 20) (oi := { dst := some 64, op := Op.pick (Operand.tmp 60) (Operand.tmp 63) (Operand.const (Value.bool false)), type := 4, pos := _, after := #[{ on := 16, ground := Ground.data }, { on := 19, ground := Ground.data }], guard := none }) (v := _) rfl (by kernel_rfl) (by kernel_rfl) (by kernel_rfl) (by kernel_rfl) (fun _ _ _ h => h) (by assumption) (Or.inl ⟨by rfl, ?hy45⟩) (fun _ => rfl) ?rest45
            case hy45 => (intro w hSw; (try dsimp only at hSw); go_simp; try with_reducible rfl)
            try simp only [Act.put, List.setIfInBounds_toArray, List.set_cons_zero, List.set_cons_succ]
            refine' ordS_take (i := 21) (oi := { dst := some 65, op := Op.move (Operand.tmp 64), type := 4, pos := _, after := #[{ on := 20, ground := Ground.data }, { on := 19, ground := Ground.chain }], guard := none }) (v := _) rfl (by kernel_rfl) (by kernel_rfl) (by kernel_rfl) (by kernel_rfl) (fun _ _ _ h => h) (by assumption) (Or.inl ⟨by rfl, ?hy46⟩) (fun _ => rfl) ?rest46
            case hy46 => (intro w hSw; (try dsimp only at hSw); go_simp; try with_reducible rfl)
            try simp only [Act.put, List.setIfInBounds_toArray, List.set_cons_zero, List.set_cons_succ]
            refine ordS_one (i := 22) (o := { dst := some 66, op := Op.call { callee := Callee.value (Operand.func 33), args := #[], argTypes := #[] }, type := 4, pos := _, after := #[{ on := 21, ground := Ground.chain }, { on := 21, ground := Ground.guard }], guard := some (21, true) }) (by kernel_rfl) rfl (by rfl) (fun K hK => ?_)
            go_simp
            refine ⟨trivial, ?_⟩
            with_reducible refine (callsIn_wide.2 (awake13 _ (HST.out.below hB))).mono ?_
            rintro e W8 ⟨rfl, hb8⟩
            replace hB := bl_tr hB hb8
            refine hK _ _ (HF.out _ hB) ?_
            have hS114 := HF.out _ hB
            clear hK K hb8
            try simp only [Act.put, List.setIfInBounds_toArray, List.set_cons_zero, List.set_cons_succ]
            refine' ordS_take (i := 23) (oi := { dst := some 67, op := Op.pick (Operand.tmp 65) (Operand.tmp 66) (Operand.const (Value.bool false)), type := 4, pos := _, after := #[{ on := 21, ground := Ground.data }, { on := 22, ground := Ground.data }], guard := none }) (v := _) rfl (by kernel_rfl) (by kernel_rfl) (by kernel_rfl) (by kernel_rfl) (fun _ _ _ h => h) (by assumption) (Or.inl ⟨by rfl, ?hy47⟩) (fun _ => rfl) ?rest47
            case hy47 => (intro w hSw; (try dsimp only at hSw); go_simp; try with_reducible rfl)
            try simp only [Act.put, List.setIfInBounds_toArray, List.set_cons_zero, List.set_cons_succ]
            refine' ordS_take (i := 24) (oi := { dst := some 4, op := Op.assign (Operand.tmp 67), type := 4, pos := _, after := #[{ on := 23, ground := Ground.data }, { on := 22, ground := Ground.chain }, { on := 0, ground := Ground.phase }, { on := 1, ground := Ground.phase }, { on := 2, ground := Ground.phase }, { on := 3, ground := Ground.phase }, { on := 4, ground := Ground.phase }, { on := 5, ground := Ground.phase }, { on := 6, ground := Ground.phase }, { on := 7, ground := Ground.phase }, { on := 8, ground := Ground.phase }, { on := 9, ground := Ground.phase }, { on := 10, ground := Ground.phase }, { on := 11, ground := Ground.phase }, { on := 12, ground := Ground.phase }, { on := 13, ground := Ground.phase }, { on := 14, ground := Ground.phase }, { on := 15, ground := Ground.phase }, { on := 16, ground := Ground.phase }, { on := 17, ground := Ground.phase }, { on := 18, ground := Ground.phase }, { on := 19, ground := Ground.phase }, { on := 20, ground := Ground.phase }, { on := 21, ground := Ground.phase }, { on := 22, ground := Ground.phase }, { on := 23, ground := Ground.phase }], guard := none }) (v := _) rfl (by kernel_rfl) (by kernel_rfl) (by kernel_rfl) (by kernel_rfl) (fun _ _ _ h => h) (by assumption) (Or.inl ⟨by rfl, ?hy48⟩) (fun _ => rfl) ?rest48
            case hy48 => (intro w hSw; (try dsimp only at hSw); go_simp; try with_reducible rfl)
            try simp only [Act.put, List.setIfInBounds_toArray, List.set_cons_zero, List.set_cons_succ]
            refine ordS_done (by kernel_rfl) ?_
            go_wp2
            go_ret
            exact ⟨rfl, bl_tr HA0.out hB⟩

end Go.Proofs.YtbdfjdipjacamaaDoor
