/- The map: New, Size, Edits, Field, Cost. -/
import Derived.Test.YthnpoeobieninaaDoorVh
namespace Go.Proofs.YthnpoeobieninaaDoor
open Go.RowKit

/-- A map in memory: its block g, its costs' block h. -/
def GridAt (W : World) (B g h cap : Nat) (X Y : Int) (zs : List Int) (k : Int) : Prop :=
  B ≤ g ∧ W.heap[g]? = some (.cells #[.int .i64 X, .int .i64 Y, .slice (some ⟨h, 0, none⟩) zs.length cap, .int .i64 k] 65 (0, 0)) ∧
    W.ownsRow B 38 1 (.slice (some ⟨h, 0, none⟩) zs.length cap) zs.length (cellsH zs)
section
variable {W : World} {B g h cap : Nat} {X Y : Int} {zs : List Int} {k : Int}
theorem GridAt.below {W' : World} (m : GridAt W B g h cap X Y zs k) (hb : Below W.heap.size W W') : GridAt W' B g h cap X Y zs k :=
  ⟨m.1, (hb.block g (Array.getElem?_eq_some_iff.1 m.2.1).1).trans m.2.1, own_later m.2.2 hb⟩
theorem GridAt.c0 (m : GridAt W B g h cap X Y zs k) : W.cell? ⟨g, 0, none⟩ = some (.int .i64 X) := by simp [World.cell?, m.2.1]
theorem GridAt.c1 (m : GridAt W B g h cap X Y zs k) : W.cell? ⟨g, 1, none⟩ = some (.int .i64 Y) := by simp [World.cell?, m.2.1]
theorem GridAt.c2 (m : GridAt W B g h cap X Y zs k) : W.cell? ⟨g, 2, none⟩ = some (.slice (some ⟨h, 0, none⟩) zs.length cap) := by simp [World.cell?, m.2.1]
theorem GridAt.c3 (m : GridAt W B g h cap X Y zs k) : W.cell? ⟨g, 3, none⟩ = some (.int .i64 k) := by simp [World.cell?, m.2.1]
theorem GridAt.fz (m : GridAt W B g h cap X Y zs k) (o : Nat) : W.frozen? ⟨g, o, none⟩ = false := by simp [World.frozen?, m.2.1]
theorem GridAt.fh (m : GridAt W B g h cap X Y zs k) (o : Nat) : W.frozen? ⟨h, o, none⟩ = false := m.2.2.frozenAt o
theorem GridAt.lt (m : GridAt W B g h cap X Y zs k) : g < W.heap.size ∧ B ≤ h ∧ h < W.heap.size := ⟨(Array.getElem?_eq_some_iff.1 m.2.1).1, m.2.2.lt h rfl⟩
theorem GridAt.row (m : GridAt W B g h cap X Y zs k) : RowH W (some ⟨h, 0, none⟩) zs := by
  obtain ⟨a, c, e, hr⟩ := rowH_of_own m.2.2
  cases e
  exact hr
theorem GridAt.at (m : GridAt W B g h cap X Y zs k) {j : Nat} (hj : j < zs.length) : W.cell? ⟨h, j, none⟩ = some (.int .u16 zs[j]) := by
  obtain ⟨b, o, e, q⟩ := m.row.cell hj
  cases e
  rw [Nat.zero_add] at q
  exact q
theorem GridAt.ne (m : GridAt W B g h cap X Y zs k) : g ≠ h := by
  rintro rfl
  rcases m.2.2.2 with ⟨e, _⟩ | ⟨g', cap', cur, e, _, hg, _⟩
  · cases e
  · cases e
    rw [m.2.1] at hg
    simp at hg
end

theorem chk_ok {X Y n : Int} (h : chkF X Y n = 0) : mayB X Y = true ∧ n = X * Y ∧ 1 ≤ n ∧ n ≤ 65536 := by
  unfold chkF at h
  split at h
  · rename_i hm
    obtain ⟨a, b⟩ := area_bd hm
    split at h
    · rename_i hn
      exact ⟨hm, hn, by omega, by omega⟩
    · cases h
  · cases h

set_option maxHeartbeats 1600000 in
theorem new_no (X Y : Int) (a : Option Addr) (n c : Nat) (w : World) (hc : chkF X Y n ≠ 0) :
    Calls Tryd.prog 10 #[.agg #[.int .i64 X, .int .i64 Y, .slice a n c]] w fun e w' => e = .returned (.tuple #[.pointer none, .int .i64 (chkF X Y n)]) ∧ Below w.heap.size w w' := by
  have hc2 : (chkF X Y n != 0) = true := by rw [bne_iff_ne]; exact hc
  have hA := bl0 w
  generalize hq : chkF X Y n = q at *
  have HQ := Lib.hid hq
  clear hq
  go_enter Tryd.func10, Tryd.ntmps10
  go_wp2_with fail
  refine (check_any _ _ _ _ _ _).mono ?_
  rintro e w1 ⟨rfl, hb⟩
  have hk : Below w.heap.size w w1 := by first | exact hb | exact bl_tr (bl_al (bl0 _) _) hb | exact bl_tr (bl_dr (bl_al (bl0 _) _)) hb | exact bl_tr (bl_al (bl_al (bl0 _) _) _) hb | exact bl_tr (bl_dr (bl_al (bl_al (bl0 _) _) _)) hb | exact bl_tr (bl_al (bl_al (bl_al (bl0 _) _) _) _) hb | exact bl_tr (bl_dr (bl_al (bl_al (bl_al (bl0 _) _) _) _)) hb | exact bl_tr (bl_al (bl_al (bl_al (bl_al (bl0 _) _) _) _) _) hb | exact bl_tr (bl_dr (bl_al (bl_al (bl_al (bl_al (bl0 _) _) _) _) _)) hb | exact bl_tr (bl_al (bl_al (bl_al (bl_al (bl_al (bl0 _) _) _) _) _) _) hb | exact bl_tr (bl_dr (bl_al (bl_al (bl_al (bl_al (bl_al (bl0 _) _) _) _) _) _)) hb | exact bl_tr (bl_al (bl_al (bl_al (bl_al (bl_al (bl_al (bl0 _) _) _) _) _) _) _) hb | exact bl_tr (bl_dr (bl_al (bl_al (bl_al (bl_al (bl_al (bl_al (bl0 _) _) _) _) _) _) _)) hb | exact bl_tr (bl_dr (bl0 _)) hb
  replace hA := bl_tr hA hk
  clear hb hk
  rw [HQ.out]
  go_wp2
  go_ret2
  exact ⟨rfl, hA⟩

set_option maxHeartbeats 1600000 in
theorem new_yes (X Y : Int) (a : Option Addr) (c : Nat) (zs : List Int) (w : World) (hr : RowH w a zs) (hc : chkF X Y zs.length = 0) :
    Calls Tryd.prog 10 #[.agg #[.int .i64 X, .int .i64 Y, .slice a zs.length c]] w fun e w' => ∃ g h cap, e = .returned (.tuple #[.pointer (some ⟨g, 0, none⟩), .int .i64 0]) ∧ GridAt w' w.heap.size g h cap X Y zs 0 ∧ Below w.heap.size w w' := by
  obtain ⟨hm, hn, h1, h2⟩ := chk_ok hc
  have h0 : zs ≠ [] := by rintro rfl; simp at h1
  have hA := bl0 w
  have HQ := Lib.hid hc
  clear hc hn
  go_enter Tryd.func10, Tryd.ntmps10
  go_wp2_with fail
  refine (check_any _ _ _ _ _ _).mono ?_
  rintro e w1 ⟨rfl, hb⟩
  have hk : Below w.heap.size w w1 := by first | exact hb | exact bl_tr (bl_al (bl0 _) _) hb | exact bl_tr (bl_dr (bl_al (bl0 _) _)) hb | exact bl_tr (bl_al (bl_al (bl0 _) _) _) hb | exact bl_tr (bl_dr (bl_al (bl_al (bl0 _) _) _)) hb | exact bl_tr (bl_al (bl_al (bl_al (bl0 _) _) _) _) hb | exact bl_tr (bl_dr (bl_al (bl_al (bl_al (bl0 _) _) _) _)) hb | exact bl_tr (bl_al (bl_al (bl_al (bl_al (bl0 _) _) _) _) _) hb | exact bl_tr (bl_dr (bl_al (bl_al (bl_al (bl_al (bl0 _) _) _) _) _)) hb | exact bl_tr (bl_al (bl_al (bl_al (bl_al (bl_al (bl0 _) _) _) _) _) _) hb | exact bl_tr (bl_dr (bl_al (bl_al (bl_al (bl_al (bl_al (bl0 _) _) _) _) _) _)) hb | exact bl_tr (bl_al (bl_al (bl_al (bl_al (bl_al (bl_al (bl0 _) _) _) _) _) _) _) hb | exact bl_tr (bl_dr (bl_al (bl_al (bl_al (bl_al (bl_al (bl_al (bl0 _) _) _) _) _) _) _)) hb | exact bl_tr (bl_dr (bl0 _)) hb
  replace hA := bl_tr hA hk
  have b0 := cell_later hb (v := .int .i64 X) (a := ⟨w.heap.size, 0, none⟩) (by simp [go_sem])
  have b1 := cell_later hb (v := .int .i64 Y) (a := ⟨w.heap.size, 1, none⟩) (by simp [go_sem])
  have b2 := cell_later hb (v := .slice a zs.length c) (a := ⟨w.heap.size, 2, none⟩) (by simp [go_sem])
  clear hb hk
  have zb0 := blk_lt b0
  have zb1 := blk_lt b1
  have zb2 := blk_lt b2
  rw [HQ.out]
  go_wp2_with fail
  refine (own_any X Y a c zs _ (hr.below hA) h0 (by omega)).mono ?_
  rintro e w2 ⟨h, cap, rfl, hown, hb⟩
  have hk : Below w1.heap.size w1 w2 := by first | exact hb | exact bl_tr (bl_al (bl0 _) _) hb | exact bl_tr (bl_dr (bl_al (bl0 _) _)) hb | exact bl_tr (bl_al (bl_al (bl0 _) _) _) hb | exact bl_tr (bl_dr (bl_al (bl_al (bl0 _) _) _)) hb | exact bl_tr (bl_al (bl_al (bl_al (bl0 _) _) _) _) hb | exact bl_tr (bl_dr (bl_al (bl_al (bl_al (bl0 _) _) _) _)) hb | exact bl_tr (bl_al (bl_al (bl_al (bl_al (bl0 _) _) _) _) _) hb | exact bl_tr (bl_dr (bl_al (bl_al (bl_al (bl_al (bl0 _) _) _) _) _)) hb | exact bl_tr (bl_al (bl_al (bl_al (bl_al (bl_al (bl0 _) _) _) _) _) _) hb | exact bl_tr (bl_dr (bl_al (bl_al (bl_al (bl_al (bl_al (bl0 _) _) _) _) _) _)) hb | exact bl_tr (bl_al (bl_al (bl_al (bl_al (bl_al (bl_al (bl0 _) _) _) _) _) _) _) hb | exact bl_tr (bl_dr (bl_al (bl_al (bl_al (bl_al (bl_al (bl_al (bl0 _) _) _) _) _) _) _)) hb | exact bl_tr (bl_dr (bl0 _)) hb
  replace hA := bl_tr hA hk
  replace b0 := cell_later hk b0
  replace b1 := cell_later hk b1
  replace b2 := cell_later hk b2
  clear hb hk
  have zb0 := blk_lt b0
  have zb1 := blk_lt b1
  have zb2 := blk_lt b2
  have hsz : w.heap.size ≤ w2.heap.size := hA.size
  have ho := (own_base hown (show w.heap.size ≤ w1.heap.size by omega)).alloc (.cells #[.int .i64 X, .int .i64 Y, .slice (some ⟨h, 0, none⟩) zs.length cap, .int .i64 0] 65)
  have HO := Lib.hid ho
  clear ho hown
  go_wp2
  go_ret2
  exact ⟨w2.heap.size, h, cap, rfl, ⟨hsz, heap_alloc_new w2 _, HO.out⟩, bl_al hA _⟩

set_option maxHeartbeats 800000 in
theorem size_any (B g h cap : Nat) (X Y : Int) (zs : List Int) (k : Int) (w : World) (m : GridAt w B g h cap X Y zs k) :
    Calls Tryd.prog 27 #[.pointer (some ⟨g, 0, none⟩)] w fun e w' => e = .returned (.agg #[.int .i64 X, .int .i64 Y]) ∧ Below w.heap.size w w' := by
  have c0 := m.c0
  have c1 := m.c1
  have hg := m.lt.1
  go_enter Tryd.func27, Tryd.ntmps27
  go_wp2
  refine bodyPost_ret (v := .agg #[.int .i64 X, .int .i64 Y]) (by simp [results, Tryd.results27, go_sem]) rfl ⟨rfl, ?_⟩
  exact bl_al (bl0 _) _
set_option maxHeartbeats 800000 in
theorem size_nil (w : World) :
    Calls Tryd.prog 27 #[.pointer none] w fun e w' => e = .returned (.agg #[.int .i64 0, .int .i64 0]) ∧ Below w.heap.size w w' := by
  go_enter Tryd.func27, Tryd.ntmps27
  go_wp2
  refine bodyPost_ret (v := .agg #[.int .i64 0, .int .i64 0]) (by simp [results, Tryd.results27, go_sem]) rfl ⟨rfl, ?_⟩
  exact bl_al (bl0 _) _
set_option maxHeartbeats 800000 in
theorem edits_any (B g h cap : Nat) (X Y : Int) (zs : List Int) (k : Int) (w : World) (m : GridAt w B g h cap X Y zs k) :
    Calls Tryd.prog 15 #[.pointer (some ⟨g, 0, none⟩)] w fun e w' => e = .returned (.int .i64 k) ∧ w' = w := by
  have c3 := m.c3
  go_enter Tryd.func15, Tryd.ntmps15
  go_wp2
  go_ret
  exact ⟨rfl, rfl⟩
set_option maxHeartbeats 800000 in
theorem edits_nil (w : World) :
    Calls Tryd.prog 15 #[.pointer none] w fun e w' => e = .returned (.int .i64 0) ∧ w' = w := by
  go_enter Tryd.func15, Tryd.ntmps15
  go_wp2
  go_ret
  exact ⟨rfl, rfl⟩

set_option maxHeartbeats 800000 in
theorem field_nil (w : World) :
    Calls Tryd.prog 16 #[.pointer none] w fun e w' => e = .returned (.agg #[.int .i64 0, .int .i64 0, .slice none 0 0]) ∧ Below w.heap.size w w' := by
  go_enter Tryd.func16, Tryd.ntmps16
  go_wp2
  refine bodyPost_ret (v := .agg #[.int .i64 0, .int .i64 0, .slice none 0 0]) (by simp [results, Tryd.results16, go_sem]) rfl ⟨rfl, ?_⟩
  exact bl_al (bl0 _) _
set_option maxHeartbeats 1600000 in
theorem field_any (B g h cap : Nat) (X Y : Int) (zs : List Int) (k : Int) (w : World) (m : GridAt w B g h cap X Y zs k) (h0 : zs ≠ []) (hl : zs.length ≤ 1048576) :
    Calls Tryd.prog 16 #[.pointer (some ⟨g, 0, none⟩)] w fun e w' => ∃ h2 cap2, e = .returned (.agg #[.int .i64 X, .int .i64 Y, .slice (some ⟨h2, 0, none⟩) zs.length cap2]) ∧ w'.ownsRow w.heap.size 38 1 (.slice (some ⟨h2, 0, none⟩) zs.length cap2) zs.length (cellsH zs) ∧ Below w.heap.size w w' := by
  have c0 := m.c0
  have c1 := m.c1
  have c2 := m.c2
  have hg := m.lt.1
  have hr := m.row
  obtain ⟨w0, hw0⟩ : ∃ w0, w.alloc (.cells #[.int .i64 0, .int .i64 0, .slice none 0 0] 26) = w0 := ⟨_, rfl⟩
  have hz : w0.heap.size = w.heap.size + 1 := by rw [← hw0]; simp
  have hb0 : Below w.heap.size w w0 := by rw [← hw0]; exact bl_al (bl0 _) _
  have f0 : w0.frozen? ⟨w.heap.size, 0, none⟩ = false := by rw [← hw0]; simp [go_sem]
  have f1 : w0.frozen? ⟨w.heap.size, 1, none⟩ = false := by rw [← hw0]; simp [go_sem]
  have f2 : w0.frozen? ⟨w.heap.size, 2, none⟩ = false := by rw [← hw0]; simp [go_sem]
  have t0 : w0.cell? ⟨w.heap.size, 0, none⟩ = some (.int .i64 0) := by rw [← hw0]; simp [go_sem]
  have t1 : w0.cell? ⟨w.heap.size, 1, none⟩ = some (.int .i64 0) := by rw [← hw0]; simp [go_sem]
  have t2 : w0.cell? ⟨w.heap.size, 2, none⟩ = some (.slice none 0 0) := by rw [← hw0]; simp [go_sem]
  have hr0 := hr.below hb0
  have HW := Lib.hid hw0
  clear hw0 hr
  go_enter Tryd.func16, Tryd.ntmps16
  go_wp2_with fail
  rw [HW.out]
  refine (own_any X Y _ cap zs _ hr0 h0 hl).mono ?_
  rintro e W2 ⟨hh, cap2, rfl, hown, hB⟩
  replace hown := own_base hown (show w0.heap.size ≤ w0.heap.size from Nat.le_refl _)
  replace f0 := frozen_later hB t0 f0
  replace f1 := frozen_later hB t1 f1
  replace f2 := frozen_later hB t2 f2
  replace t0 := cell_later hB t0
  replace t1 := cell_later hB t1
  replace t2 := cell_later hB t2
  have ho := ownsRow_setCell_below (ownsRow_setCell_below (ownsRow_setCell_below hown (a := ⟨w.heap.size, 0, none⟩) (show w.heap.size < _ by have := hB.size; omega) (.int .i64 X)) (a := ⟨w.heap.size, 1, none⟩) (show w.heap.size < _ by have := hB.size; omega) (.int .i64 Y)) (a := ⟨w.heap.size, 2, none⟩) (show w.heap.size < _ by have := hB.size; omega) (.slice (some ⟨hh, 0, none⟩) zs.length cap2)
  have hf := bl_st (bl_st (bl_st (bl_tr hb0 hB) (Nat.le_refl _) (o := 0) (.int .i64 X)) (Nat.le_refl _) (o := 1) (.int .i64 Y)) (Nat.le_refl _) (o := 2) (.slice (some ⟨hh, 0, none⟩) zs.length cap2)
  have HO := Lib.hid (own_base ho (show w.heap.size ≤ w0.heap.size by omega))
  have HF := Lib.hid hf
  clear ho hf hown
  go_wp2
  refine bodyPost_ret (v := .agg #[.int .i64 X, .int .i64 Y, .slice (some ⟨hh, 0, none⟩) zs.length cap2]) (by simp [results, Tryd.results16, go_sem, t0, t1, t2]) rfl ⟨_, _, rfl, HO.out, HF.out⟩
end Go.Proofs.YthnpoeobieninaaDoor
