/- Gates: the chapter's example is as it says. -/
import Derived.Test.YtbdfjdipjacamaaDoorQf
namespace Go.Proofs.YtbdfjdipjacamaaDoor
open Go.RowKit

theorem btw_aw (i j : Int) (p : IC × IC) (hx : btwX 4 4 (16 : Nat) 4 4 2 i j = 0) (hL : btwL 4 4 zAg 4 4 2 i j = [p]) (b : Nat) (w : World) (hr : RowH w (some ⟨b, 0, none⟩) zAg) (hs : Stp w) :
    Calls Tryd.prog 56 #[.agg #[.int .i64 4, .int .i64 4, .slice (some ⟨b, 0, none⟩) 16 16], .agg #[.int .i64 4, .int .i64 4, .int .i64 2], .int .i64 i, .int .i64 j] w fun e w' => (∃ a c, e = .returned (.tuple #[.slice a 1 c, .int .i64 0]) ∧ RowPP w' a [p]) ∧ Below w.heap.size w w' := by
  have h := btwn_any 4 4 (some ⟨b, 0, none⟩) 16 zAg 4 4 2 i j w hr hs
  rw [hL, show zAg.length = 16 from rfl, hx] at h
  refine h.mono ?_
  rintro e w' ⟨a, c, he, _, hrow, hb⟩
  exact ⟨⟨a, c, he, hrow⟩, hb⟩
theorem same_one (a : Option Addr) (cap b : Nat) (p : IC × IC) (w : World) (hr : RowPP w a [p]) (hr2 : RowPP w (some ⟨b, 0, none⟩) [p]) :
    Calls Tryd.prog 27 #[.slice a 1 cap, .slice (some ⟨b, 0, none⟩) 1 1] w fun e w' => e = .returned (.bool true) ∧ Below w.heap.size w w' :=
  same_t a (some ⟨b, 0, none⟩) cap 1 [p] w hr hr2 (by simp)

set_option maxRecDepth 100000 in
set_option maxHeartbeats 4000000 in
theorem awake12 (w : World) (hst : Stp w) : Calls Tryd.prog 23 #[] w fun e w' => e = .returned (.bool true) ∧ Below w.heap.size w w' := by
  have H1 := Lib.hid (btw_aw 0 1 _ aw_1.1 aw_1.2)
  have H2 := Lib.hid (btw_aw 2 0 _ aw_2.1 aw_2.2)
  have H3 := Lib.hid (btw_aw 1 3 _ aw_3.1 aw_3.2)
  go_enter Tryd.func23, Tryd.ntmps23
  go_wp2_with fail
  have hA := bl_al (bl_al (bl_al (bl0 w) (.cells #[.int .u16 1, .int .u16 1, .int .u16 1, .int .u16 1, .int .u16 1, .int .u16 0, .int .u16 1, .int .u16 1, .int .u16 1, .int .u16 1, .int .u16 1, .int .u16 1, .int .u16 1, .int .u16 1, .int .u16 1, .int .u16 1] 82)) (.cells #[.int .i64 4, .int .i64 4, .slice (some ⟨w.heap.size, 0, none⟩) 16 16] 26)) (.cells #[.int .i64 4, .int .i64 4, .int .i64 2] 53)
  have hrow : RowH (w.alloc (.cells #[.int .u16 1, .int .u16 1, .int .u16 1, .int .u16 1, .int .u16 1, .int .u16 0, .int .u16 1, .int .u16 1, .int .u16 1, .int .u16 1, .int .u16 1, .int .u16 1, .int .u16 1, .int .u16 1, .int .u16 1, .int .u16 1] 82)) (some ⟨w.heap.size, 0, none⟩) zAg :=
    rowh_lit (heap_alloc_new _ _) rfl
  replace hrow := hrow.below (bl_al (bl_al (bl0 _) (.cells #[.int .i64 4, .int .i64 4, .slice (some ⟨w.heap.size, 0, none⟩) 16 16] 26)) (.cells #[.int .i64 4, .int .i64 4, .int .i64 2] 53))
  refine (H1.out w.heap.size _ hrow (hst.below hA)).mono ?_
  rintro e w1 ⟨⟨a1, cap1, rfl, hu1⟩, hb1⟩
  replace hA := bl_tr hA hb1
  replace hrow := hrow.below hb1
  have f0 := cell_later hb1 (v := .int .i64 4) (a := ⟨w.heap.size + 1, 0, none⟩) (by simp [go_sem])
  have f1 := cell_later hb1 (v := .int .i64 4) (a := ⟨w.heap.size + 1, 1, none⟩) (by simp [go_sem])
  have f2 := cell_later hb1 (v := .slice (some ⟨w.heap.size, 0, none⟩) 16 16) (a := ⟨w.heap.size + 1, 2, none⟩) (by simp [go_sem])
  have k0 := cell_later hb1 (v := .int .i64 4) (a := ⟨w.heap.size + 1 + 1, 0, none⟩) (by simp [go_sem])
  have k1 := cell_later hb1 (v := .int .i64 4) (a := ⟨w.heap.size + 1 + 1, 1, none⟩) (by simp [go_sem])
  have k2 := cell_later hb1 (v := .int .i64 2) (a := ⟨w.heap.size + 1 + 1, 2, none⟩) (by simp [go_sem])
  clear hb1
  go_wp2_with fail
  refine (H2.out w.heap.size _ hrow (hst.below hA)).mono ?_
  rintro e w2 ⟨⟨a2, cap2, rfl, hu2⟩, hb2⟩
  replace hA := bl_tr hA hb2
  replace hrow := hrow.below hb2
  replace hu1 := hu1.below hb2
  replace f0 := cell_later hb2 f0; replace f1 := cell_later hb2 f1; replace f2 := cell_later hb2 f2
  replace k0 := cell_later hb2 k0; replace k1 := cell_later hb2 k1; replace k2 := cell_later hb2 k2
  clear hb2
  go_wp2_with fail
  refine (H3.out w.heap.size _ hrow (hst.below hA)).mono ?_
  rintro e w3 ⟨⟨a3, cap3, rfl, hu3⟩, hb3⟩
  replace hA := bl_tr hA hb3
  replace hu1 := hu1.below hb3
  replace hu2 := hu2.below hb3
  clear hb3 hrow f0 f1 f2 k0 k1 k2
  go_wp2_with fail
  refine (same_one a1 cap1 w3.heap.size ((1, 0), (2, 0)) _ (hu1.below (bl_al (bl0 w3) _)) (rowPP_lit (heap_alloc_new _ _) rfl)).mono ?_
  rintro e w4 ⟨rfl, hb4⟩
  have hk := bl_tr (bl_al (bl0 w3) (.cells #[.int .i64 1, .int .i64 0, .int .i64 2, .int .i64 0] 98)) hb4
  replace hA := bl_tr hA hk
  replace hu2 := hu2.below hk
  replace hu3 := hu3.below hk
  clear hb4 hu1 hk
  go_wp2_with fail
  refine (same_one a2 cap2 w4.heap.size ((0, 1), (0, 2)) _ (hu2.below (bl_al (bl0 w4) _)) (rowPP_lit (heap_alloc_new _ _) rfl)).mono ?_
  rintro e w5 ⟨rfl, hb5⟩
  have hk := bl_tr (bl_al (bl0 w4) (.cells #[.int .i64 0, .int .i64 1, .int .i64 0, .int .i64 2] 98)) hb5
  replace hA := bl_tr hA hk
  replace hu3 := hu3.below hk
  clear hb5 hu2 hk
  go_wp2_with fail
  refine (same_one a3 cap3 w5.heap.size ((2, 1), (2, 2)) _ (hu3.below (bl_al (bl0 w5) _)) (rowPP_lit (heap_alloc_new _ _) rfl)).mono ?_
  rintro e w6 ⟨rfl, hb6⟩
  have hk := bl_tr (bl_al (bl0 w5) (.cells #[.int .i64 2, .int .i64 1, .int .i64 2, .int .i64 2] 98)) hb6
  replace hA := bl_tr hA hk
  clear hb6 hu3 hk
  go_wp2_with fail
  go_ret
  exact ⟨rfl, hA⟩
end Go.Proofs.YtbdfjdipjacamaaDoor
