/- Least costs: the chapter's example is as it says. -/
import Derived.Test.YtjkecdghlpeigaaDoorCo
namespace Go.Proofs.YtjkecdghlpeigaaDoor
open Go.RowKit

theorem zAw_in : AllH zAw := by
  intro z hz
  simp only [zAw, List.mem_cons, List.not_mem_nil, or_false] at hz
  rcases hz with rfl | rfl | rfl | rfl | rfl | rfl <;> exact ⟨by decide, by decide⟩
theorem from_aw (b : Nat) (w : World) (hr : RowH w (some ⟨b, 0, none⟩) zAw) (hst : Stp w) :
    Calls Tryd.prog 20 #[.agg #[.int .i64 3, .int .i64 2, .slice (some ⟨b, 0, none⟩) 6 6], .agg #[.int .i64 0, .int .i64 0]] w fun e w' => (∃ a' cap', e = .returned (.tuple #[.slice a' 6 cap', .int .i64 0]) ∧ RowU w' a' dAw) ∧ Below w.heap.size w w' := by
  refine (from_any 3 2 (some ⟨b, 0, none⟩) 6 zAw (0, 0) w zAw_in hr hst).mono ?_
  rintro e w' ⟨⟨a, cap, ds, he, h2, h3, h4⟩, hb⟩
  have hE : errW 3 2 zAw.length (0, 0, 3, 2) (0, 0) = 0 := errW_aw
  rw [hE] at he h4
  obtain ⟨h5, h6⟩ := h4 rfl
  have hG : (gphB 3 2 (0, 0, 3, 2) zAw).Ok := gphB_ok (by decide) (by decide) zAw_in
  have h7 : ds = dAw := far_same hG h6 far_aw (by rw [h5]; rfl)
  subst h7
  exact ⟨⟨a, cap, he, h2⟩, hb⟩
theorem path_aw_any (b : Nat) (w : World) (hr : RowH w (some ⟨b, 0, none⟩) zAw) (hst : Stp w) :
    Calls Tryd.prog 21 #[.agg #[.int .i64 3, .int .i64 2, .slice (some ⟨b, 0, none⟩) 6 6], .agg #[.int .i64 0, .int .i64 0, .int .i64 3, .int .i64 2], .agg #[.int .i64 0, .int .i64 0], .agg #[.int .i64 2, .int .i64 1]] w fun e w' => (∃ a' cap', e = .returned (.tuple #[.slice a' 4 cap', .int .u64 4, .int .i64 0]) ∧ RowC w' a' [(0, 0), (1, 0), (2, 0), (2, 1)]) ∧ Below w.heap.size w w' := by
  refine (path_any 3 2 (some ⟨b, 0, none⟩) 6 zAw (0, 0, 3, 2) (0, 0) (2, 1) w zAw_in hr hst).mono ?_
  rintro e w' ⟨⟨a, cap, l, cost, er, he, h2, h3, h4, h5⟩, hb⟩
  have hE : errW 3 2 zAw.length (0, 0, 3, 2) (0, 0) = 0 := errW_aw
  obtain ⟨h6, h7⟩ := (h5 hE).2 (by kernel_rfl) dAw rfl far_aw
  obtain ⟨rfl, h8, h9⟩ := h7 (by decide)
  have e1 : cost = 4 := h8
  have e2 : l = [(0, 0), (1, 0), (2, 0), (2, 1)] := h9.trans path_aw
  subst e1
  subst e2
  exact ⟨⟨a, cap, he, h2⟩, hb⟩
theorem row_lit {W : World} {b : Nat} {cs : Array Value} {t : TypeId} {zs : List Int} (h : W.heap[b]? = some (.cells cs t (0, 0))) (hc : cs = (zs.map (Value.int .u16)).toArray) : RowH W (some ⟨b, 0, none⟩) zs := by
  refine .inr ⟨b, 0, rfl, fun i z hz => ?_⟩
  rw [Nat.zero_add]
  simp only [World.cell?, h, hc]
  simp [hz]
theorem rowU_lit {W : World} {b : Nat} {cs : Array Value} {t : TypeId} {zs : List Int} (h : W.heap[b]? = some (.cells cs t (0, 0))) (hc : cs = (zs.map (Value.int .u64)).toArray) : RowU W (some ⟨b, 0, none⟩) zs := by
  refine .inr ⟨b, 0, rfl, fun i z hz => ?_⟩
  rw [Nat.zero_add]
  simp only [World.cell?, h, hc]
  simp [hz]
theorem rowC_lit {W : World} {b : Nat} {cs : Array Value} {t : TypeId} {zs : List IC} (h : W.heap[b]? = some (.cells cs t (0, 0))) (hc : cs = (flatC zs).toArray) : RowC W (some ⟨b, 0, none⟩) zs := by
  refine .inr ⟨b, 0, rfl, fun i z hz => ?_⟩
  obtain ⟨e0, e1⟩ := flatC_at zs i z hz
  rw [Nat.zero_add]
  simp only [World.cell?, h, hc]
  simp [e0, e1]

set_option maxRecDepth 100000 in
set_option maxHeartbeats 4000000 in
theorem awake8 (w : World) (hst : Stp w) : Calls Tryd.prog 15 #[] w fun e w' => e = .returned (.bool true) ∧ Below w.heap.size w w' := by
  go_enter Tryd.func15, Tryd.ntmps15
  go_wp2_with fail
  have hA := bl_al (bl_al (bl0 w) (.cells #[.int .u16 1, .int .u16 2, .int .u16 1, .int .u16 1, .int .u16 9, .int .u16 1] 53)) (.cells #[.int .i64 3, .int .i64 2, .slice (some ⟨w.heap.size, 0, none⟩) 6 6] 26)
  have hrow : RowH ((w.alloc (.cells #[.int .u16 1, .int .u16 2, .int .u16 1, .int .u16 1, .int .u16 9, .int .u16 1] 53)).alloc (.cells #[.int .i64 3, .int .i64 2, .slice (some ⟨w.heap.size, 0, none⟩) 6 6] 26)) (some ⟨w.heap.size, 0, none⟩) zAw :=
    row_lit (two_allocs _ _ _).1 rfl
  refine (from_aw w.heap.size _ hrow (hst.below hA)).mono ?_
  rintro e w1 ⟨⟨a1, cap1, rfl, hu1⟩, hb1⟩
  have hA1 := bl_tr hA hb1
  have hrow1 := hrow.below hb1
  have f0 := cell_later hb1 (v := .int .i64 3) (a := ⟨w.heap.size + 1, 0, none⟩) (by simp [go_sem])
  have f1 := cell_later hb1 (v := .int .i64 2) (a := ⟨w.heap.size + 1, 1, none⟩) (by simp [go_sem])
  have f2 := cell_later hb1 (v := .slice (some ⟨w.heap.size, 0, none⟩) 6 6) (a := ⟨w.heap.size + 1, 2, none⟩) (by simp [go_sem])
  clear hA hrow hb1
  go_wp2_with fail
  refine (path_aw_any w.heap.size _ hrow1 (hst.below hA1)).mono ?_
  rintro e w2 ⟨⟨a2, cap2, rfl, hc2⟩, hb2⟩
  have hA2 := bl_tr hA1 hb2
  have hu2 := hu1.below hb2
  clear hA1 hrow1 hb2 hu1 f0 f1 f2
  go_wp2_with fail
  have hA3 := bl_al hA2 (.cells #[.int .u64 0, .int .u64 2, .int .u64 3, .int .u64 1, .int .u64 10, .int .u64 4] 45)
  have hl3 : RowU (w2.alloc (.cells #[.int .u64 0, .int .u64 2, .int .u64 3, .int .u64 1, .int .u64 10, .int .u64 4] 45)) (some ⟨w2.heap.size, 0, none⟩) dAw := rowU_lit (heap_alloc_new _ _) rfl
  have hcall := same8_any a1 (some ⟨w2.heap.size, 0, none⟩) cap1 6 dAw dAw _ (hu2.below (bl_al (bl0 w2) _)) hl3 (by decide)
  rw [show decide (dAw = dAw) = true from decide_eq_true rfl, show dAw.length = 6 from rfl] at hcall
  refine hcall.mono ?_
  rintro e w3 ⟨rfl, hb3⟩
  have hc3 := hc2.below (bl_tr (bl_al (bl0 w2) _) hb3)
  have hA4 := bl_tr hA3 hb3
  clear hA2 hA3 hl3 hu2 hcall hb3 hc2
  go_wp2_with fail
  have hl4 : RowC (w3.alloc (.cells #[.int .i64 0, .int .i64 0, .int .i64 1, .int .i64 0, .int .i64 2, .int .i64 0, .int .i64 2, .int .i64 1] 30)) (some ⟨w3.heap.size, 0, none⟩) [(0, 0), (1, 0), (2, 0), (2, 1)] := rowC_lit (heap_alloc_new _ _) rfl
  have hcall := cells_any a2 (some ⟨w3.heap.size, 0, none⟩) cap2 4 [(0, 0), (1, 0), (2, 0), (2, 1)] [(0, 0), (1, 0), (2, 0), (2, 1)] _ (hc3.below (bl_al (bl0 w3) _)) hl4 (by decide)
  rw [decide_eq_true rfl] at hcall
  try simp only [List.length_cons, List.length_nil, Nat.reduceAdd] at hcall
  refine hcall.mono ?_
  rintro e w4 ⟨rfl, hb4⟩
  have hA5 := bl_tr (bl_al hA4 _) hb4
  clear hA4 hl4 hcall hb4 hc3
  go_wp2_with fail
  go_ret
  exact ⟨rfl, hA5⟩
end Go.Proofs.YtjkecdghlpeigaaDoor
