/- Paths: the chapter's examples. -/
import Derived.Test.YtlmloedjakpogabDoorAl
namespace Go.Proofs.YtlmloedjakpogabDoor
open Go.RowKit

theorem rowC_block {W : World} {g : Nat} {zs : List IC} {t : TypeId} (h : W.heap[g]? = some (.cells (flatC zs).toArray t (0, 0))) : RowC W (some ⟨g, 0, none⟩) zs := by
  refine .inr ⟨g, 0, rfl, fun i z hz => ?_⟩
  obtain ⟨e0, e1⟩ := flatC_at zs i z hz
  rw [Nat.zero_add]
  constructor
  · simp [World.cell?, h, e0]
  · simp [World.cell?, h, e1]
theorem rowH_block {W : World} {g : Nat} {zs : List Int} {t : TypeId} (h : W.heap[g]? = some (.cells (zs.map (Value.int .u16)).toArray t (0, 0))) : RowH W (some ⟨g, 0, none⟩) zs := by
  refine .inr ⟨g, 0, rfl, fun i z hz => ?_⟩
  rw [Nat.zero_add]
  simp [World.cell?, h, hz]
theorem rowB_block {W : World} {g : Nat} {zs : List Int} {t : TypeId} (h : W.heap[g]? = some (.cells (zs.map (Value.int .u8)).toArray t (0, 0))) : RowB W (some ⟨g, 0, none⟩) zs := by
  refine .inr ⟨g, 0, rfl, fun i z hz => ?_⟩
  rw [Nat.zero_add]
  simp [World.cell?, h, hz]

theorem three_new (w : World) (o1 o2 o3 : Obj) : (((w.alloc o1).alloc o2).alloc o3).heap[w.heap.size]? = some o1 ∧ (((w.alloc o1).alloc o2).alloc o3).heap[w.heap.size + 1]? = some o2 ∧ (((w.alloc o1).alloc o2).alloc o3).heap[w.heap.size + 1 + 1]? = some o3 := by
  have z1 : (w.alloc o1).heap.size = w.heap.size + 1 := by simp
  have z2 : ((w.alloc o1).alloc o2).heap.size = w.heap.size + 1 + 1 := by simp
  refine ⟨?_, ?_, ?_⟩
  · exact (Below.heap_alloc _ _ _ (by omega)).trans ((Below.heap_alloc _ _ _ (by omega)).trans (heap_alloc_new _ _))
  · have := heap_alloc_new (w.alloc o1) o2
    rw [z1] at this
    exact (Below.heap_alloc _ _ _ (by omega)).trans this
  · have := heap_alloc_new ((w.alloc o1).alloc o2) o3
    rw [z2] at this
    exact this

set_option maxRecDepth 100000 in
set_option maxHeartbeats 4000000 in
theorem awake_any (w : World) (hs : Stp w) :
    Calls Tryd.prog 9 #[] w fun e w' => e = .returned (.bool true) ∧ Below w.heap.size w w' := by
  have hA := bl0 w
  have e1 : movE [(0, 0), (1, 0), (1, 1)] = 0 := by decide
  have e2 : movR [(0, 0), (1, 0), (1, 1)] = [1, 2] := by decide
  have e3 : pathE 2 2 [1, 2, 3, 4] [(0, 0), (1, 0), (1, 1)] (chkF 2 2 ([1, 2, 3, 4] : List Int).length) = 0 := by decide
  have e4 : costP 2 2 [1, 2, 3, 4] [(0, 0), (1, 0), (1, 1)] = 6 := by decide
  have e5 : joinE [(0, 0), (1, 0), (1, 1)] [(1, 1), (0, 1)] = 0 := by decide
  have e6 : joinL [(0, 0), (1, 0), (1, 1)] [(1, 1), (0, 1)] = [(0, 0), (1, 0), (1, 1), (0, 1)] := by decide
  have e7 : pathE 2 2 [1, 2, 3, 4] [(0, 0), (1, 0), (1, 1), (0, 1)] (chkF 2 2 ([1, 2, 3, 4] : List Int).length) = 0 := by decide
  have e8 : costP 2 2 [1, 2, 3, 4] [(0, 0), (1, 0), (1, 1), (0, 1)] = 9 := by decide
  have hin : AllH [1, 2, 3, 4] := by intro z hz; simp at hz; unfold inH; omega
  obtain ⟨g0, g1, g2⟩ := three_new w (.cells (([1, 2, 3, 4] : List Int).map (Value.int .u16)).toArray 51) (.cells #[.int .i64 2, .int .i64 2, .slice (some ⟨w.heap.size, 0, none⟩) 4 4] 26) (.cells (flatC [(0, 0), (1, 0), (1, 1)]).toArray 37)
  obtain ⟨W0, hW0⟩ : ∃ W0, ((w.alloc (.cells (([1, 2, 3, 4] : List Int).map (Value.int .u16)).toArray 51)).alloc (.cells #[.int .i64 2, .int .i64 2, .slice (some ⟨w.heap.size, 0, none⟩) 4 4] 26)).alloc (.cells (flatC [(0, 0), (1, 0), (1, 1)]).toArray 37) = W0 := ⟨_, rfl⟩
  rw [hW0] at g0 g1 g2
  have hz0 : W0.heap.size = w.heap.size + 3 := by rw [← hW0]; simp
  have hb0 : Below w.heap.size w W0 := by rw [← hW0]; exact bl_al (bl_al (bl_al (bl0 w) _) _) _
  have hH := rowH_block g0
  have hC := rowC_block g2
  have f0 : W0.cell? ⟨w.heap.size + 1, 0, none⟩ = some (.int .i64 2) := by simp [World.cell?, g1]
  have f1 : W0.cell? ⟨w.heap.size + 1, 1, none⟩ = some (.int .i64 2) := by simp [World.cell?, g1]
  have f2 : W0.cell? ⟨w.heap.size + 1, 2, none⟩ = some (.slice (some ⟨w.heap.size, 0, none⟩) 4 4) := by simp [World.cell?, g1]
  simp [flatC] at hW0
  have HW := Lib.hid hW0
  have hmv := fun W h1 h2 => moves_path (some ⟨w.heap.size + 1 + 1, 0, none⟩) 3 [(0, 0), (1, 0), (1, 1)] W h1 h2 (by decide)
  rw [e1, e2] at hmv
  have hco := fun W h1 h2 h3 => cost_path 2 2 (some ⟨w.heap.size, 0, none⟩) (some ⟨w.heap.size + 1 + 1, 0, none⟩) 4 3 [1, 2, 3, 4] [(0, 0), (1, 0), (1, 1)] W h1 hin h2 h3 (by decide)
  rw [e3, e4] at hco
  have hjo := fun (xb : Option Addr) W h1 h2 => join_path (some ⟨w.heap.size + 1 + 1, 0, none⟩) xb 3 2 [(0, 0), (1, 0), (1, 1)] [(1, 1), (0, 1)] W h1 h2 (by decide) (by decide) (by decide)
  rw [e5, e6] at hjo
  have hc2 := fun (xb : Option Addr) (cb : Nat) W h1 h2 h3 => cost_path 2 2 (some ⟨w.heap.size, 0, none⟩) xb 4 cb [1, 2, 3, 4] [(0, 0), (1, 0), (1, 1), (0, 1)] W h1 hin h2 h3 (by decide)
  rw [e7, e8] at hc2
  have HM := Lib.hid hmv; have HC := Lib.hid hco; have HJ := Lib.hid hjo; have HD := Lib.hid hc2
  clear g0 g1 g2 hW0 e1 e2 e3 e4 e5 e6 e7 e8 hmv hco hjo hc2
  go_enter Tryd.func9, Tryd.ntmps9
  go_wp2_with fail
  rw [HW.out]
  refine (HM.out W0 hC (hs.below hb0)).mono ?_
  rintro e w1 ⟨v1, rfl, hown1, hb1⟩
  obtain ⟨a1, c1, rfl, hr1, hc1⟩ := rowB_of_own hown1
  have hbb1 := bl_tr hb0 hb1
  replace f0 := cell_later hb1 f0; replace f1 := cell_later hb1 f1; replace f2 := cell_later hb1 f2
  replace hH := hH.below hb1; replace hC := hC.below hb1
  clear hown1 hb0 hA
  go_wp2_with fail
  refine (HC.out w1 hH hC (hs.below hbb1)).mono ?_
  rintro e w2 ⟨rfl, hb2⟩
  have hbb2 := bl_tr hbb1 hb2
  replace f0 := cell_later hb2 f0; replace f1 := cell_later hb2 f1; replace f2 := cell_later hb2 f2
  replace hH := hH.below hb2; replace hC := hC.below hb2; replace hr1 := hr1.below hb2
  clear hbb1 hb1 hb2
  obtain ⟨W3, hW3⟩ : ∃ W3, w2.alloc (.cells (flatC [(1, 1), (0, 1)]).toArray 37) = W3 := ⟨_, rfl⟩
  have g3 : W3.heap[w2.heap.size]? = some (.cells (flatC [(1, 1), (0, 1)]).toArray 37 (0, 0)) := by rw [← hW3]; exact heap_alloc_new _ _
  have hb3 : Below w2.heap.size w2 W3 := by rw [← hW3]; exact bl_al (bl0 _) _
  have hC2 := rowC_block g3
  have hbb3 := bl_tr hbb2 hb3
  replace f0 := cell_later hb3 f0; replace f1 := cell_later hb3 f1; replace f2 := cell_later hb3 f2
  replace hH := hH.below hb3; replace hC := hC.below hb3; replace hr1 := hr1.below hb3
  simp [flatC] at hW3
  have HW3 := Lib.hid hW3
  clear g3 hW3 hb3 hbb2
  go_wp2_with fail
  rw [HW3.out]
  refine (HJ.out _ W3 hC hC2).mono ?_
  rintro e w4 ⟨v4, rfl, hown4, hb4⟩
  obtain ⟨a4, c4, rfl, hr4⟩ := rowC_of_own hown4
  have hbb4 := bl_tr hbb3 hb4
  replace f0 := cell_later hb4 f0; replace f1 := cell_later hb4 f1; replace f2 := cell_later hb4 f2
  replace hH := hH.below hb4; replace hr1 := hr1.below hb4
  clear hC hC2 hown4 hb4 hbb3
  go_wp2_with fail
  refine (HD.out _ _ w4 hH hr4 (hs.below hbb4)).mono ?_
  rintro e w5 ⟨rfl, hb5⟩
  replace hr1 := hr1.below hb5
  have hbb5 := bl_tr hbb4 hb5
  have hb6 := bl_al (bl0 w5) (.cells (([1, 2] : List Int).map (Value.int .u8)).toArray 5)
  have hr2 : RowB (w5.alloc (.cells (([1, 2] : List Int).map (Value.int .u8)).toArray 5)) (some ⟨w5.heap.size, 0, none⟩) [1, 2] := rowB_block (heap_alloc_new _ _)
  clear hr4 hbb4 f0 f1 f2 hH hb5
  go_wp2_with fail
  refine (bytes_any a1 (some ⟨w5.heap.size, 0, none⟩) c1 2 [1, 2] [1, 2] _ (hr1.below hb6) hr2 (by decide)).mono ?_
  rintro e w6 ⟨rfl, hb7⟩
  have hbb7 := bl_tr (bl_tr hbb5 hb6) hb7
  clear hb6 hb7 hr1 hr2
  go_wp2
  go_ret
  exact ⟨rfl, hbb7⟩
end Go.Proofs.YtlmloedjakpogabDoor
