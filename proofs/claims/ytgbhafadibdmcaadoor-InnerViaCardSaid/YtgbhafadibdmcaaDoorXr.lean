/- Tables within a cluster: Same. -/
import Derived.Test.YtgbhafadibdmcaaDoorXq
import Derived.Test.YtgbhafadibdmcaaDoorL1
namespace Go.Proofs.YtgbhafadibdmcaaDoor
open Go.RowKit

set_option maxRecDepth 100000 in
set_option maxHeartbeats 2000000 in
theorem same_i (a a2 t t2 : Option Addr) (ac ac2 tc tc2 : Nat) (xs ys : List (Int × Int)) (rs qs : List (List Int)) (w : World) (hr : RowC w a xs) (hr2 : RowC w a2 ys) (ht : TabR w t rs) (ht2 : TabR w t2 qs) (hl : xs.length ≤ 1048576) (hl2 : rs.length ≤ 1048576) (hxl : ∀ r ∈ rs, r.length ≤ 1048576) :
    Calls Tryd.prog 28 #[.agg #[.slice a xs.length ac, .slice t rs.length tc], .agg #[.slice a2 ys.length ac2, .slice t2 qs.length tc2]] w fun e w' => e = .returned (.bool (decide (xs = ys) && decide (rs = qs))) ∧ Below w.heap.size w w' := by
  have hA := bl0 w
  have H1 := Lib.hid (fun w h1 h2 => sequal_c a a2 ac ac2 xs ys w h1 h2 hl)
  have H2 := Lib.hid (fun w h1 h2 => sequal_f t t2 tc tc2 rs qs w h1 h2 hl2 hxl)
  obtain ⟨u, hu⟩ : ∃ u, decide (xs = ys) = u := ⟨_, rfl⟩
  obtain ⟨v, hv⟩ : ∃ v, decide (rs = qs) = v := ⟨_, rfl⟩
  rw [hu] at H1 ⊢
  rw [hv] at H2 ⊢
  clear hu hv hxl hl hl2
  cases u
  · go_enter Tryd.func28, Tryd.ntmps28
    go_wp2_with fail
    refine (H1.out _ (hr.below (by first | exact hA | exact (bl_al hA _) | exact (bl_dr (bl_al hA _)) | exact (bl_al (bl_al hA _) _) | exact (bl_dr (bl_al (bl_al hA _) _)) | exact (bl_al (bl_al (bl_al hA _) _) _) | exact (bl_dr (bl_al (bl_al (bl_al hA _) _) _)) | exact (bl_al (bl_al (bl_al (bl_al hA _) _) _) _) | exact (bl_dr (bl_al (bl_al (bl_al (bl_al hA _) _) _) _)) | exact (bl_al (bl_al (bl_al (bl_al (bl_al hA _) _) _) _) _) | exact (bl_dr (bl_al (bl_al (bl_al (bl_al (bl_al hA _) _) _) _) _)) | exact (bl_al (bl_al (bl_al (bl_al (bl_al (bl_al hA _) _) _) _) _) _) | exact (bl_dr (bl_al (bl_al (bl_al (bl_al (bl_al (bl_al hA _) _) _) _) _) _)) | exact (bl_dr hA))) (hr2.below (by first | exact hA | exact (bl_al hA _) | exact (bl_dr (bl_al hA _)) | exact (bl_al (bl_al hA _) _) | exact (bl_dr (bl_al (bl_al hA _) _)) | exact (bl_al (bl_al (bl_al hA _) _) _) | exact (bl_dr (bl_al (bl_al (bl_al hA _) _) _)) | exact (bl_al (bl_al (bl_al (bl_al hA _) _) _) _) | exact (bl_dr (bl_al (bl_al (bl_al (bl_al hA _) _) _) _)) | exact (bl_al (bl_al (bl_al (bl_al (bl_al hA _) _) _) _) _) | exact (bl_dr (bl_al (bl_al (bl_al (bl_al (bl_al hA _) _) _) _) _)) | exact (bl_al (bl_al (bl_al (bl_al (bl_al (bl_al hA _) _) _) _) _) _) | exact (bl_dr (bl_al (bl_al (bl_al (bl_al (bl_al (bl_al hA _) _) _) _) _) _)) | exact (bl_dr hA)))).mono ?_
    rintro e w1 ⟨rfl, hb⟩
    have hk : Below w.heap.size w w1 := by first | exact hb | exact bl_tr (bl_al (bl0 _) _) hb | exact bl_tr (bl_dr (bl_al (bl0 _) _)) hb | exact bl_tr (bl_al (bl_al (bl0 _) _) _) hb | exact bl_tr (bl_dr (bl_al (bl_al (bl0 _) _) _)) hb | exact bl_tr (bl_al (bl_al (bl_al (bl0 _) _) _) _) hb | exact bl_tr (bl_dr (bl_al (bl_al (bl_al (bl0 _) _) _) _)) hb | exact bl_tr (bl_al (bl_al (bl_al (bl_al (bl0 _) _) _) _) _) hb | exact bl_tr (bl_dr (bl_al (bl_al (bl_al (bl_al (bl0 _) _) _) _) _)) hb | exact bl_tr (bl_al (bl_al (bl_al (bl_al (bl_al (bl0 _) _) _) _) _) _) hb | exact bl_tr (bl_dr (bl_al (bl_al (bl_al (bl_al (bl_al (bl0 _) _) _) _) _) _)) hb | exact bl_tr (bl_al (bl_al (bl_al (bl_al (bl_al (bl_al (bl0 _) _) _) _) _) _) _) hb | exact bl_tr (bl_dr (bl_al (bl_al (bl_al (bl_al (bl_al (bl_al (bl0 _) _) _) _) _) _) _)) hb | exact bl_tr (bl_dr (bl0 _)) hb
    replace hA := bl_tr hA hk
    clear hb hk
    go_wp2
    go_ret
    exact ⟨rfl, hA⟩
  · go_enter Tryd.func28, Tryd.ntmps28
    go_wp2_with fail
    refine (H1.out _ (hr.below (by first | exact hA | exact (bl_al hA _) | exact (bl_dr (bl_al hA _)) | exact (bl_al (bl_al hA _) _) | exact (bl_dr (bl_al (bl_al hA _) _)) | exact (bl_al (bl_al (bl_al hA _) _) _) | exact (bl_dr (bl_al (bl_al (bl_al hA _) _) _)) | exact (bl_al (bl_al (bl_al (bl_al hA _) _) _) _) | exact (bl_dr (bl_al (bl_al (bl_al (bl_al hA _) _) _) _)) | exact (bl_al (bl_al (bl_al (bl_al (bl_al hA _) _) _) _) _) | exact (bl_dr (bl_al (bl_al (bl_al (bl_al (bl_al hA _) _) _) _) _)) | exact (bl_al (bl_al (bl_al (bl_al (bl_al (bl_al hA _) _) _) _) _) _) | exact (bl_dr (bl_al (bl_al (bl_al (bl_al (bl_al (bl_al hA _) _) _) _) _) _)) | exact (bl_dr hA))) (hr2.below (by first | exact hA | exact (bl_al hA _) | exact (bl_dr (bl_al hA _)) | exact (bl_al (bl_al hA _) _) | exact (bl_dr (bl_al (bl_al hA _) _)) | exact (bl_al (bl_al (bl_al hA _) _) _) | exact (bl_dr (bl_al (bl_al (bl_al hA _) _) _)) | exact (bl_al (bl_al (bl_al (bl_al hA _) _) _) _) | exact (bl_dr (bl_al (bl_al (bl_al (bl_al hA _) _) _) _)) | exact (bl_al (bl_al (bl_al (bl_al (bl_al hA _) _) _) _) _) | exact (bl_dr (bl_al (bl_al (bl_al (bl_al (bl_al hA _) _) _) _) _)) | exact (bl_al (bl_al (bl_al (bl_al (bl_al (bl_al hA _) _) _) _) _) _) | exact (bl_dr (bl_al (bl_al (bl_al (bl_al (bl_al (bl_al hA _) _) _) _) _) _)) | exact (bl_dr hA)))).mono ?_
    rintro e w1 ⟨rfl, hb⟩
    have hk : Below w.heap.size w w1 := by first | exact hb | exact bl_tr (bl_al (bl0 _) _) hb | exact bl_tr (bl_dr (bl_al (bl0 _) _)) hb | exact bl_tr (bl_al (bl_al (bl0 _) _) _) hb | exact bl_tr (bl_dr (bl_al (bl_al (bl0 _) _) _)) hb | exact bl_tr (bl_al (bl_al (bl_al (bl0 _) _) _) _) hb | exact bl_tr (bl_dr (bl_al (bl_al (bl_al (bl0 _) _) _) _)) hb | exact bl_tr (bl_al (bl_al (bl_al (bl_al (bl0 _) _) _) _) _) hb | exact bl_tr (bl_dr (bl_al (bl_al (bl_al (bl_al (bl0 _) _) _) _) _)) hb | exact bl_tr (bl_al (bl_al (bl_al (bl_al (bl_al (bl0 _) _) _) _) _) _) hb | exact bl_tr (bl_dr (bl_al (bl_al (bl_al (bl_al (bl_al (bl0 _) _) _) _) _) _)) hb | exact bl_tr (bl_al (bl_al (bl_al (bl_al (bl_al (bl_al (bl0 _) _) _) _) _) _) _) hb | exact bl_tr (bl_dr (bl_al (bl_al (bl_al (bl_al (bl_al (bl_al (bl0 _) _) _) _) _) _) _)) hb | exact bl_tr (bl_dr (bl0 _)) hb
    replace hA := bl_tr hA hk
    have f0 := cell_later hb (v := .slice a xs.length ac) (a := ⟨w.heap.size, 0, none⟩) (by simp [go_sem])
    have f1 := cell_later hb (v := .slice t rs.length tc) (a := ⟨w.heap.size, 1, none⟩) (by simp [go_sem])
    have g0 := cell_later hb (v := .slice a2 ys.length ac2) (a := ⟨w.heap.size + 1, 0, none⟩) (by simp [go_sem])
    have g1 := cell_later hb (v := .slice t2 qs.length tc2) (a := ⟨w.heap.size + 1, 1, none⟩) (by simp [go_sem])
    clear hb hk
    have zf0 := blk_lt f0
    have zf1 := blk_lt f1
    have zg0 := blk_lt g0
    have zg1 := blk_lt g1
    go_wp2_with fail
    refine (H2.out _ (ht.below (by first | exact hA | exact (bl_al hA _) | exact (bl_dr (bl_al hA _)) | exact (bl_al (bl_al hA _) _) | exact (bl_dr (bl_al (bl_al hA _) _)) | exact (bl_al (bl_al (bl_al hA _) _) _) | exact (bl_dr (bl_al (bl_al (bl_al hA _) _) _)) | exact (bl_al (bl_al (bl_al (bl_al hA _) _) _) _) | exact (bl_dr (bl_al (bl_al (bl_al (bl_al hA _) _) _) _)) | exact (bl_al (bl_al (bl_al (bl_al (bl_al hA _) _) _) _) _) | exact (bl_dr (bl_al (bl_al (bl_al (bl_al (bl_al hA _) _) _) _) _)) | exact (bl_al (bl_al (bl_al (bl_al (bl_al (bl_al hA _) _) _) _) _) _) | exact (bl_dr (bl_al (bl_al (bl_al (bl_al (bl_al (bl_al hA _) _) _) _) _) _)) | exact (bl_dr hA))) (ht2.below (by first | exact hA | exact (bl_al hA _) | exact (bl_dr (bl_al hA _)) | exact (bl_al (bl_al hA _) _) | exact (bl_dr (bl_al (bl_al hA _) _)) | exact (bl_al (bl_al (bl_al hA _) _) _) | exact (bl_dr (bl_al (bl_al (bl_al hA _) _) _)) | exact (bl_al (bl_al (bl_al (bl_al hA _) _) _) _) | exact (bl_dr (bl_al (bl_al (bl_al (bl_al hA _) _) _) _)) | exact (bl_al (bl_al (bl_al (bl_al (bl_al hA _) _) _) _) _) | exact (bl_dr (bl_al (bl_al (bl_al (bl_al (bl_al hA _) _) _) _) _)) | exact (bl_al (bl_al (bl_al (bl_al (bl_al (bl_al hA _) _) _) _) _) _) | exact (bl_dr (bl_al (bl_al (bl_al (bl_al (bl_al (bl_al hA _) _) _) _) _) _)) | exact (bl_dr hA)))).mono ?_
    rintro e w2 ⟨rfl, hb⟩
    have hk : Below w1.heap.size w1 w2 := by first | exact hb | exact bl_tr (bl_al (bl0 _) _) hb | exact bl_tr (bl_dr (bl_al (bl0 _) _)) hb | exact bl_tr (bl_al (bl_al (bl0 _) _) _) hb | exact bl_tr (bl_dr (bl_al (bl_al (bl0 _) _) _)) hb | exact bl_tr (bl_al (bl_al (bl_al (bl0 _) _) _) _) hb | exact bl_tr (bl_dr (bl_al (bl_al (bl_al (bl0 _) _) _) _)) hb | exact bl_tr (bl_al (bl_al (bl_al (bl_al (bl0 _) _) _) _) _) hb | exact bl_tr (bl_dr (bl_al (bl_al (bl_al (bl_al (bl0 _) _) _) _) _)) hb | exact bl_tr (bl_al (bl_al (bl_al (bl_al (bl_al (bl0 _) _) _) _) _) _) hb | exact bl_tr (bl_dr (bl_al (bl_al (bl_al (bl_al (bl_al (bl0 _) _) _) _) _) _)) hb | exact bl_tr (bl_al (bl_al (bl_al (bl_al (bl_al (bl_al (bl0 _) _) _) _) _) _) _) hb | exact bl_tr (bl_dr (bl_al (bl_al (bl_al (bl_al (bl_al (bl_al (bl0 _) _) _) _) _) _) _)) hb | exact bl_tr (bl_dr (bl0 _)) hb
    replace hA := bl_tr hA hk
    clear hb hk
    go_wp2
    go_ret
    exact ⟨by simp, hA⟩
end Go.Proofs.YtgbhafadibdmcaaDoor
