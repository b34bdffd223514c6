/- GeomIndex: the law's walk. -/
import Derived.Test.YtdacoeehhpnkbaaDoorLonce
import Derived.Test.YtdacoeehhpnkbaaDoorRb
import Derived.Deep.RegionHeld3
namespace Go.Proofs.YtdacoeehhpnkbaaDoor
open Go.RowKit

theorem pair0 (w : World) (x y u v : Value) (t t' : TypeId) :
    ((w.alloc (.cells #[x, y] t)).alloc (.cells #[u, v] t')).cell? ⟨w.heap.size, 0, none⟩ = some x ∧ ((w.alloc (.cells #[x, y] t)).alloc (.cells #[u, v] t')).cell? ⟨w.heap.size, 1, none⟩ = some y ∧
    ((w.alloc (.cells #[x, y] t)).alloc (.cells #[u, v] t')).cell? ⟨w.heap.size + 1, 0, none⟩ = some u ∧ ((w.alloc (.cells #[x, y] t)).alloc (.cells #[u, v] t')).cell? ⟨w.heap.size + 1, 1, none⟩ = some v := by
  refine ⟨?_, ?_, ?_, ?_⟩ <;> simp [go_sem]

/-- The law's answer. -/
def Ok (w : World) (e : Ending) (w' : World) : Prop := e = .returned (.bool true) ∧ Below w.heap.size w w'

theorem flat_get (W : Nat) : ∀ (N j : Nat), j < N → (flat W N)[j * 2]? = some (.int .i64 ((j % W : Nat) : Int)) ∧ (flat W N)[j * 2 + 1]? = some (.int .i64 ((j / W : Nat) : Int)) := by
  intro N
  induction N with
  | zero => intro j h; omega
  | succ N ih =>
    intro j h
    rw [flat_succ]
    by_cases e : j = N
    · subst e
      have hl := flat_len W j
      constructor
      · rw [List.getElem?_append_right (by omega), hl]; simp [cellAt]
      · rw [List.getElem?_append_right (by omega), hl, Nat.add_sub_cancel_left]; simp [cellAt]
    · have hl := flat_len W N
      obtain ⟨h0, h1⟩ := ih j (by omega)
      exact ⟨by rw [List.getElem?_append_left (by omega)]; exact h0, by rw [List.getElem?_append_left (by omega)]; exact h1⟩
theorem adn (b off i : Nat) : (⟨b, off, none⟩ : Addr).add i = ⟨b, off + i, none⟩ := by unfold Addr.add; split <;> simp_all

/-- What the list of all cells gives a walk: a slice, and the cells of its elements. -/
theorem flat_cells {w : World} {B W N : Nat} {v : Value} (h : w.ownsRow B 25 2 v N (flat W N)) (hN : 0 < N) :
    ∃ g cap, v = .slice (some ⟨g, 0, none⟩) N cap ∧ ∀ j, j < N → w.cell? ⟨g, j * 2, none⟩ = some (.int .i64 ((j % W : Nat) : Int)) ∧ w.cell? ⟨g, j * 2 + 1, none⟩ = some (.int .i64 ((j / W : Nat) : Int)) := by
  have hc := h
  rcases h.2 with ⟨_, h0⟩ | ⟨g, cap, cur, rfl, _⟩
  · omega
  · refine ⟨g, cap, rfl, fun j hj => ?_⟩
    obtain ⟨e0, e1⟩ := flat_get W N j hj
    have c0 := hc.cells (g := g) rfl _ _ e0
    have c1 := hc.cells (g := g) rfl _ _ e1
    rw [adn, Nat.zero_add] at c0 c1
    exact ⟨c0, c1⟩



set_option maxRecDepth 100000 in
set_option maxHeartbeats 3200000 in
theorem index_no_may (W H X Y i : Int) (w : World) (hs : Stp w) (hm : mayB W H = false) : Calls
    Tryd.prog 3 #[.agg #[.int .i64 W, .int .i64 H], .agg #[.int .i64 X, .int .i64 Y], .int .i64 i] w (Ok w) := by
  have hi : inB W H X Y = false := by
    cases h : inB W H X Y
    · rfl
    · have := inB_iff.1 h
      have : mayB W H = true := mayB_iff.2 (by omega)
      rw [hm] at this; cases this
  have ht : atB W H i = false := by
    cases h : atB W H i
    · rfl
    · have := atB_iff.1 h
      have : mayB W H = true := mayB_iff.2 (by omega)
      rw [hm] at this; cases this
  obtain ⟨s0, s1, a0, a1⟩ := pair0 w (.int .i64 W) (.int .i64 H) (.int .i64 X) (.int .i64 Y) 23 25
  have hk := bl0
    ((w.alloc (.cells #[.int .i64 W, .int .i64 H] 23)).alloc (.cells #[.int .i64 X, .int .i64 Y] 25))
  go_enter Tryd.func3, Tryd.ntmps3
  go_wp2
  go_region_held3 (fun w' => w'.cell? ⟨w.heap.size, 0, none⟩ = some (.int .i64 W) ∧ w'.cell? ⟨w.heap.size, 1, none⟩ = some (.int .i64 H) ∧ w'.cell? ⟨w.heap.size + 1, 0, none⟩ = some (.int .i64 X) ∧ w'.cell? ⟨w.heap.size + 1, 1, none⟩ = some (.int .i64 Y))
    (first | exact ⟨cell_later hk s0, cell_later hk s1, cell_later hk a0, cell_later hk a1⟩ | exact ⟨cell_later (bl_dr hk) s0, cell_later (bl_dr hk) s1, cell_later (bl_dr hk) a0, cell_later (bl_dr hk) a1⟩)
    (first
    | (go_at_call 11; refine (may_any _ _ _).mono ?_; rintro e w1 ⟨rfl, hb⟩; replace hk := bl_tr (bl_dr hk) hb; clear hb)
    | (go_at_call 12; refine (rmay_any _ _ _).mono ?_; rintro e w2 ⟨rfl, hb⟩; replace hk := bl_tr hk hb; clear hb)
    | (go_at_call 13; refine (in_any _ _ _ _ _).mono ?_; rintro e w3 ⟨rfl, hb⟩; replace hk := bl_tr hk hb; clear hb)
    | (go_at_call 14; refine (rin_any _ _ _ _ _).mono ?_; rintro e w4 ⟨rfl, hb⟩; replace hk := bl_tr hk hb; clear hb))
  have hA := bl_tr (bl_al (bl_al (bl0 _) _) _) hk
  replace s0 := cell_later hk s0
  replace s1 := cell_later hk s1
  replace a0 := cell_later hk a0
  replace a1 := cell_later hk a1
  clear hk
  go_wp2_with fail
  refine (index_no _ _ _ _ _ hi).mono ?_
  rintro e w5 ⟨rfl, hb⟩
  have hk : Below w4.heap.size w4 w5 := by first | exact hb | exact bl_tr (bl_al (bl0 _) _) hb | exact bl_tr (bl_dr (bl_al (bl0 _) _)) hb | exact bl_tr (bl_al (bl_al (bl0 _) _) _) hb | exact bl_tr (bl_dr (bl_al (bl_al (bl0 _) _) _)) hb | exact bl_tr (bl_al (bl_al (bl_al (bl0 _) _) _) _) hb | exact bl_tr (bl_dr (bl_al (bl_al (bl_al (bl0 _) _) _) _)) hb | exact bl_tr (bl_al (bl_al (bl_al (bl_al (bl0 _) _) _) _) _) hb | exact bl_tr (bl_dr (bl_al (bl_al (bl_al (bl_al (bl0 _) _) _) _) _)) hb | exact bl_tr (bl_al (bl_al (bl_al (bl_al (bl_al (bl0 _) _) _) _) _) _) hb | exact bl_tr (bl_dr (bl_al (bl_al (bl_al (bl_al (bl_al (bl0 _) _) _) _) _) _)) hb | exact bl_tr (bl_al (bl_al (bl_al (bl_al (bl_al (bl_al (bl0 _) _) _) _) _) _) _) hb | exact bl_tr (bl_dr (bl_al (bl_al (bl_al (bl_al (bl_al (bl_al (bl0 _) _) _) _) _) _) _)) hb | exact bl_tr (bl_dr (bl0 _)) hb
  replace hA := bl_tr hA hk
  replace s0 := cell_later hk s0
  replace s1 := cell_later hk s1
  replace a0 := cell_later hk a0
  replace a1 := cell_later hk a1
  clear hb hk
  have zs0 := blk_lt s0
  have zs1 := blk_lt s1
  have za0 := blk_lt a0
  have za1 := blk_lt a1
  go_wp2_with fail
  refine (rin_any _ _ _ _ _).mono ?_
  rintro e w6 ⟨rfl, hb⟩
  have hk : Below w5.heap.size w5 w6 := by first | exact hb | exact bl_tr (bl_al (bl0 _) _) hb | exact bl_tr (bl_dr (bl_al (bl0 _) _)) hb | exact bl_tr (bl_al (bl_al (bl0 _) _) _) hb | exact bl_tr (bl_dr (bl_al (bl_al (bl0 _) _) _)) hb | exact bl_tr (bl_al (bl_al (bl_al (bl0 _) _) _) _) hb | exact bl_tr (bl_dr (bl_al (bl_al (bl_al (bl0 _) _) _) _)) hb | exact bl_tr (bl_al (bl_al (bl_al (bl_al (bl0 _) _) _) _) _) hb | exact bl_tr (bl_dr (bl_al (bl_al (bl_al (bl_al (bl0 _) _) _) _) _)) hb | exact bl_tr (bl_al (bl_al (bl_al (bl_al (bl_al (bl0 _) _) _) _) _) _) hb | exact bl_tr (bl_dr (bl_al (bl_al (bl_al (bl_al (bl_al (bl0 _) _) _) _) _) _)) hb | exact bl_tr (bl_al (bl_al (bl_al (bl_al (bl_al (bl_al (bl0 _) _) _) _) _) _) _) hb | exact bl_tr (bl_dr (bl_al (bl_al (bl_al (bl_al (bl_al (bl_al (bl0 _) _) _) _) _) _) _)) hb | exact bl_tr (bl_dr (bl0 _)) hb
  replace hA := bl_tr hA hk
  replace s0 := cell_later hk s0
  replace s1 := cell_later hk s1
  replace a0 := cell_later hk a0
  replace a1 := cell_later hk a1
  clear hb hk
  have zs0 := blk_lt s0
  have zs1 := blk_lt s1
  have za0 := blk_lt a0
  have za1 := blk_lt a1
  go_wp2_with fail
  refine (at_no _ _ _ _ ht).mono ?_
  rintro e w7 ⟨rfl, hb⟩
  have hk : Below w6.heap.size w6 w7 := by first | exact hb | exact bl_tr (bl_al (bl0 _) _) hb | exact bl_tr (bl_dr (bl_al (bl0 _) _)) hb | exact bl_tr (bl_al (bl_al (bl0 _) _) _) hb | exact bl_tr (bl_dr (bl_al (bl_al (bl0 _) _) _)) hb | exact bl_tr (bl_al (bl_al (bl_al (bl0 _) _) _) _) hb | exact bl_tr (bl_dr (bl_al (bl_al (bl_al (bl0 _) _) _) _)) hb | exact bl_tr (bl_al (bl_al (bl_al (bl_al (bl0 _) _) _) _) _) hb | exact bl_tr (bl_dr (bl_al (bl_al (bl_al (bl_al (bl0 _) _) _) _) _)) hb | exact bl_tr (bl_al (bl_al (bl_al (bl_al (bl_al (bl0 _) _) _) _) _) _) hb | exact bl_tr (bl_dr (bl_al (bl_al (bl_al (bl_al (bl_al (bl0 _) _) _) _) _) _)) hb | exact bl_tr (bl_al (bl_al (bl_al (bl_al (bl_al (bl_al (bl0 _) _) _) _) _) _) _) hb | exact bl_tr (bl_dr (bl_al (bl_al (bl_al (bl_al (bl_al (bl_al (bl0 _) _) _) _) _) _) _)) hb | exact bl_tr (bl_dr (bl0 _)) hb
  replace hA := bl_tr hA hk
  replace s0 := cell_later hk s0
  replace s1 := cell_later hk s1
  clear hb hk
  have zs0 := blk_lt s0
  have zs1 := blk_lt s1
  go_wp2_with fail
  refine (rmay_any _ _ _).mono ?_
  rintro e w8 ⟨rfl, hb⟩
  have hk : Below w7.heap.size w7 w8 := by first | exact hb | exact bl_tr (bl_al (bl0 _) _) hb | exact bl_tr (bl_dr (bl_al (bl0 _) _)) hb | exact bl_tr (bl_al (bl_al (bl0 _) _) _) hb | exact bl_tr (bl_dr (bl_al (bl_al (bl0 _) _) _)) hb | exact bl_tr (bl_al (bl_al (bl_al (bl0 _) _) _) _) hb | exact bl_tr (bl_dr (bl_al (bl_al (bl_al (bl0 _) _) _) _)) hb | exact bl_tr (bl_al (bl_al (bl_al (bl_al (bl0 _) _) _) _) _) hb | exact bl_tr (bl_dr (bl_al (bl_al (bl_al (bl_al (bl0 _) _) _) _) _)) hb | exact bl_tr (bl_al (bl_al (bl_al (bl_al (bl_al (bl0 _) _) _) _) _) _) hb | exact bl_tr (bl_dr (bl_al (bl_al (bl_al (bl_al (bl_al (bl0 _) _) _) _) _) _)) hb | exact bl_tr (bl_al (bl_al (bl_al (bl_al (bl_al (bl_al (bl0 _) _) _) _) _) _) _) hb | exact bl_tr (bl_dr (bl_al (bl_al (bl_al (bl_al (bl_al (bl_al (bl0 _) _) _) _) _) _) _)) hb | exact bl_tr (bl_dr (bl0 _)) hb
  replace hA := bl_tr hA hk
  replace s0 := cell_later hk s0
  replace s1 := cell_later hk s1
  have c0 := cell_later hb (v := .int .i64 0) (a := ⟨w7.heap.size, 0, none⟩) (by simp [go_sem])
  have c1 := cell_later hb (v := .int .i64 0) (a := ⟨w7.heap.size, 1, none⟩) (by simp [go_sem])
  clear hb hk
  have zs0 := blk_lt s0
  have zs1 := blk_lt s1
  have zc0 := blk_lt c0
  have zc1 := blk_lt c1
  go_wp2_with fail
  refine (awake_any _ (hs.below (by first | exact hA | exact (bl_al hA _) | exact (bl_dr (bl_al hA _)) | exact (bl_al (bl_al hA _) _) | exact (bl_dr (bl_al (bl_al hA _) _)) | exact (bl_al (bl_al (bl_al hA _) _) _) | exact (bl_dr (bl_al (bl_al (bl_al hA _) _) _)) | exact (bl_al (bl_al (bl_al (bl_al hA _) _) _) _) | exact (bl_dr (bl_al (bl_al (bl_al (bl_al hA _) _) _) _)) | exact (bl_al (bl_al (bl_al (bl_al (bl_al hA _) _) _) _) _) | exact (bl_dr (bl_al (bl_al (bl_al (bl_al (bl_al hA _) _) _) _) _)) | exact (bl_al (bl_al (bl_al (bl_al (bl_al (bl_al hA _) _) _) _) _) _) | exact (bl_dr (bl_al (bl_al (bl_al (bl_al (bl_al (bl_al hA _) _) _) _) _) _)) | exact (bl_dr hA)))).mono ?_
  rintro e w9 ⟨rfl, hb⟩
  have hk : Below w8.heap.size w8 w9 := by first | exact hb | exact bl_tr (bl_al (bl0 _) _) hb | exact bl_tr (bl_dr (bl_al (bl0 _) _)) hb | exact bl_tr (bl_al (bl_al (bl0 _) _) _) hb | exact bl_tr (bl_dr (bl_al (bl_al (bl0 _) _) _)) hb | exact bl_tr (bl_al (bl_al (bl_al (bl0 _) _) _) _) hb | exact bl_tr (bl_dr (bl_al (bl_al (bl_al (bl0 _) _) _) _)) hb | exact bl_tr (bl_al (bl_al (bl_al (bl_al (bl0 _) _) _) _) _) hb | exact bl_tr (bl_dr (bl_al (bl_al (bl_al (bl_al (bl0 _) _) _) _) _)) hb | exact bl_tr (bl_al (bl_al (bl_al (bl_al (bl_al (bl0 _) _) _) _) _) _) hb | exact bl_tr (bl_dr (bl_al (bl_al (bl_al (bl_al (bl_al (bl0 _) _) _) _) _) _)) hb | exact bl_tr (bl_al (bl_al (bl_al (bl_al (bl_al (bl_al (bl0 _) _) _) _) _) _) _) hb | exact bl_tr (bl_dr (bl_al (bl_al (bl_al (bl_al (bl_al (bl_al (bl0 _) _) _) _) _) _) _)) hb | exact bl_tr (bl_dr (bl0 _)) hb
  replace hA := bl_tr hA hk
  clear hb hk
  go_wp2
  go_ret
  exact ⟨rfl, hA⟩



set_option maxRecDepth 100000 in
set_option maxHeartbeats 3200000 in
theorem index_out (W H N : Nat) (X Y i : Int) (w : World) (hs : Stp w) (hm : mayB W H = true) (hW : W ≤ 256) (hH : H ≤ 256) (hN : H * W = N) (hN0 : 0 < N) (ht : atB W H i = false) (hj : i < 0 ∨ (N : Int) ≤ i) : Calls
    Tryd.prog 3 #[.agg #[.int .i64 W, .int .i64 H], .agg #[.int .i64 X, .int .i64 Y], .int .i64 i] w (Ok w) := by
  cases hi : inB W H X Y
  · --
    obtain ⟨s0, s1, a0, a1⟩ := pair0 w (.int .i64 W) (.int .i64 H) (.int .i64 X) (.int .i64 Y) 23 25
    have hk := bl0
      ((w.alloc (.cells #[.int .i64 W, .int .i64 H] 23)).alloc (.cells #[.int .i64 X, .int .i64 Y] 25))
    go_enter Tryd.func3, Tryd.ntmps3
    go_wp2
    go_region_held3 (fun w' => w'.cell? ⟨w.heap.size, 0, none⟩ = some (.int .i64 W) ∧ w'.cell? ⟨w.heap.size, 1, none⟩ = some (.int .i64 H) ∧ w'.cell? ⟨w.heap.size + 1, 0, none⟩ = some (.int .i64 X) ∧ w'.cell? ⟨w.heap.size + 1, 1, none⟩ = some (.int .i64 Y))
      (first | exact ⟨cell_later hk s0, cell_later hk s1, cell_later hk a0, cell_later hk a1⟩ | exact ⟨cell_later (bl_dr hk) s0, cell_later (bl_dr hk) s1, cell_later (bl_dr hk) a0, cell_later (bl_dr hk) a1⟩)
      (first
      | (go_at_call 11; refine (may_any _ _ _).mono ?_; rintro e w1 ⟨rfl, hb⟩; replace hk := bl_tr (bl_dr hk) hb; clear hb)
      | (go_at_call 12; refine (rmay_any _ _ _).mono ?_; rintro e w2 ⟨rfl, hb⟩; replace hk := bl_tr hk hb; clear hb)
      | (go_at_call 13; refine (in_any _ _ _ _ _).mono ?_; rintro e w3 ⟨rfl, hb⟩; replace hk := bl_tr hk hb; clear hb)
      | (go_at_call 14; refine (rin_any _ _ _ _ _).mono ?_; rintro e w4 ⟨rfl, hb⟩; replace hk := bl_tr hk hb; clear hb))
    have hA := bl_tr (bl_al (bl_al (bl0 _) _) _) hk
    replace s0 := cell_later hk s0
    replace s1 := cell_later hk s1
    replace a0 := cell_later hk a0
    replace a1 := cell_later hk a1
    clear hk
    go_wp2_with fail
    refine (index_no _ _ _ _ _ hi).mono ?_
    rintro e w5 ⟨rfl, hb⟩
    have hk : Below w4.heap.size w4 w5 := by first | exact hb | exact bl_tr (bl_al (bl0 _) _) hb | exact bl_tr (bl_dr (bl_al (bl0 _) _)) hb | exact bl_tr (bl_al (bl_al (bl0 _) _) _) hb | exact bl_tr (bl_dr (bl_al (bl_al (bl0 _) _) _)) hb | exact bl_tr (bl_al (bl_al (bl_al (bl0 _) _) _) _) hb | exact bl_tr (bl_dr (bl_al (bl_al (bl_al (bl0 _) _) _) _)) hb | exact bl_tr (bl_al (bl_al (bl_al (bl_al (bl0 _) _) _) _) _) hb | exact bl_tr (bl_dr (bl_al (bl_al (bl_al (bl_al (bl0 _) _) _) _) _)) hb | exact bl_tr (bl_al (bl_al (bl_al (bl_al (bl_al (bl0 _) _) _) _) _) _) hb | exact bl_tr (bl_dr (bl_al (bl_al (bl_al (bl_al (bl_al (bl0 _) _) _) _) _) _)) hb | exact bl_tr (bl_al (bl_al (bl_al (bl_al (bl_al (bl_al (bl0 _) _) _) _) _) _) _) hb | exact bl_tr (bl_dr (bl_al (bl_al (bl_al (bl_al (bl_al (bl_al (bl0 _) _) _) _) _) _) _)) hb | exact bl_tr (bl_dr (bl0 _)) hb
    replace hA := bl_tr hA hk
    replace s0 := cell_later hk s0
    replace s1 := cell_later hk s1
    replace a0 := cell_later hk a0
    replace a1 := cell_later hk a1
    clear hb hk
    have zs0 := blk_lt s0
    have zs1 := blk_lt s1
    have za0 := blk_lt a0
    have za1 := blk_lt a1
    go_wp2_with fail
    refine (rin_any _ _ _ _ _).mono ?_
    rintro e w6 ⟨rfl, hb⟩
    have hk : Below w5.heap.size w5 w6 := by first | exact hb | exact bl_tr (bl_al (bl0 _) _) hb | exact bl_tr (bl_dr (bl_al (bl0 _) _)) hb | exact bl_tr (bl_al (bl_al (bl0 _) _) _) hb | exact bl_tr (bl_dr (bl_al (bl_al (bl0 _) _) _)) hb | exact bl_tr (bl_al (bl_al (bl_al (bl0 _) _) _) _) hb | exact bl_tr (bl_dr (bl_al (bl_al (bl_al (bl0 _) _) _) _)) hb | exact bl_tr (bl_al (bl_al (bl_al (bl_al (bl0 _) _) _) _) _) hb | exact bl_tr (bl_dr (bl_al (bl_al (bl_al (bl_al (bl0 _) _) _) _) _)) hb | exact bl_tr (bl_al (bl_al (bl_al (bl_al (bl_al (bl0 _) _) _) _) _) _) hb | exact bl_tr (bl_dr (bl_al (bl_al (bl_al (bl_al (bl_al (bl0 _) _) _) _) _) _)) hb | exact bl_tr (bl_al (bl_al (bl_al (bl_al (bl_al (bl_al (bl0 _) _) _) _) _) _) _) hb | exact bl_tr (bl_dr (bl_al (bl_al (bl_al (bl_al (bl_al (bl_al (bl0 _) _) _) _) _) _) _)) hb | exact bl_tr (bl_dr (bl0 _)) hb
    replace hA := bl_tr hA hk
    replace s0 := cell_later hk s0
    replace s1 := cell_later hk s1
    replace a0 := cell_later hk a0
    replace a1 := cell_later hk a1
    clear hb hk
    have zs0 := blk_lt s0
    have zs1 := blk_lt s1
    have za0 := blk_lt a0
    have za1 := blk_lt a1
    go_wp2_with fail
    refine (at_no _ _ _ _ ht).mono ?_
    rintro e w7 ⟨rfl, hb⟩
    have hk : Below w6.heap.size w6 w7 := by first | exact hb | exact bl_tr (bl_al (bl0 _) _) hb | exact bl_tr (bl_dr (bl_al (bl0 _) _)) hb | exact bl_tr (bl_al (bl_al (bl0 _) _) _) hb | exact bl_tr (bl_dr (bl_al (bl_al (bl0 _) _) _)) hb | exact bl_tr (bl_al (bl_al (bl_al (bl0 _) _) _) _) hb | exact bl_tr (bl_dr (bl_al (bl_al (bl_al (bl0 _) _) _) _)) hb | exact bl_tr (bl_al (bl_al (bl_al (bl_al (bl0 _) _) _) _) _) hb | exact bl_tr (bl_dr (bl_al (bl_al (bl_al (bl_al (bl0 _) _) _) _) _)) hb | exact bl_tr (bl_al (bl_al (bl_al (bl_al (bl_al (bl0 _) _) _) _) _) _) hb | exact bl_tr (bl_dr (bl_al (bl_al (bl_al (bl_al (bl_al (bl0 _) _) _) _) _) _)) hb | exact bl_tr (bl_al (bl_al (bl_al (bl_al (bl_al (bl_al (bl0 _) _) _) _) _) _) _) hb | exact bl_tr (bl_dr (bl_al (bl_al (bl_al (bl_al (bl_al (bl_al (bl0 _) _) _) _) _) _) _)) hb | exact bl_tr (bl_dr (bl0 _)) hb
    replace hA := bl_tr hA hk
    replace s0 := cell_later hk s0
    replace s1 := cell_later hk s1
    clear hb hk
    have zs0 := blk_lt s0
    have zs1 := blk_lt s1
    go_wp2_with fail
    refine (rmay_any _ _ _).mono ?_
    rintro e w8 ⟨rfl, hb⟩
    have hk : Below w7.heap.size w7 w8 := by first | exact hb | exact bl_tr (bl_al (bl0 _) _) hb | exact bl_tr (bl_dr (bl_al (bl0 _) _)) hb | exact bl_tr (bl_al (bl_al (bl0 _) _) _) hb | exact bl_tr (bl_dr (bl_al (bl_al (bl0 _) _) _)) hb | exact bl_tr (bl_al (bl_al (bl_al (bl0 _) _) _) _) hb | exact bl_tr (bl_dr (bl_al (bl_al (bl_al (bl0 _) _) _) _)) hb | exact bl_tr (bl_al (bl_al (bl_al (bl_al (bl0 _) _) _) _) _) hb | exact bl_tr (bl_dr (bl_al (bl_al (bl_al (bl_al (bl0 _) _) _) _) _)) hb | exact bl_tr (bl_al (bl_al (bl_al (bl_al (bl_al (bl0 _) _) _) _) _) _) hb | exact bl_tr (bl_dr (bl_al (bl_al (bl_al (bl_al (bl_al (bl0 _) _) _) _) _) _)) hb | exact bl_tr (bl_al (bl_al (bl_al (bl_al (bl_al (bl_al (bl0 _) _) _) _) _) _) _) hb | exact bl_tr (bl_dr (bl_al (bl_al (bl_al (bl_al (bl_al (bl_al (bl0 _) _) _) _) _) _) _)) hb | exact bl_tr (bl_dr (bl0 _)) hb
    replace hA := bl_tr hA hk
    replace s0 := cell_later hk s0
    replace s1 := cell_later hk s1
    have c0 := cell_later hb (v := .int .i64 0) (a := ⟨w7.heap.size, 0, none⟩) (by simp [go_sem])
    have c1 := cell_later hb (v := .int .i64 0) (a := ⟨w7.heap.size, 1, none⟩) (by simp [go_sem])
    clear hb hk
    have zs0 := blk_lt s0
    have zs1 := blk_lt s1
    have zc0 := blk_lt c0
    have zc1 := blk_lt c1
    go_wp2_with fail
    refine (rcells_yes W H _ hW hH).mono ?_
    rintro e w9 ⟨v, rfl, hown, hb⟩
    replace hA := bl_tr hA hb
    replace c0 := cell_later hb c0
    replace c1 := cell_later hb c1
    clear hb
    rw [hN] at hown
    obtain ⟨g, cap, rfl, hl⟩ := flat_cells hown hN0
    clear hown
    clear hl
    by_cases hl : i < 0
    all_goals
      go_wp2_with fail
      refine (awake_any _ (hs.below (by first | exact hA | exact (bl_al hA _) | exact (bl_dr (bl_al hA _)) | exact (bl_al (bl_al hA _) _) | exact (bl_dr (bl_al (bl_al hA _) _)) | exact (bl_al (bl_al (bl_al hA _) _) _) | exact (bl_dr (bl_al (bl_al (bl_al hA _) _) _)) | exact (bl_al (bl_al (bl_al (bl_al hA _) _) _) _) | exact (bl_dr (bl_al (bl_al (bl_al (bl_al hA _) _) _) _)) | exact (bl_al (bl_al (bl_al (bl_al (bl_al hA _) _) _) _) _) | exact (bl_dr (bl_al (bl_al (bl_al (bl_al (bl_al hA _) _) _) _) _)) | exact (bl_al (bl_al (bl_al (bl_al (bl_al (bl_al hA _) _) _) _) _) _) | exact (bl_dr (bl_al (bl_al (bl_al (bl_al (bl_al (bl_al hA _) _) _) _) _) _)) | exact (bl_dr hA)))).mono ?_
      rintro e wx ⟨rfl, hb⟩
      have hk : Below w9.heap.size w9 wx := by first | exact hb | exact bl_tr (bl_al (bl0 _) _) hb | exact bl_tr (bl_dr (bl_al (bl0 _) _)) hb | exact bl_tr (bl_al (bl_al (bl0 _) _) _) hb | exact bl_tr (bl_dr (bl_al (bl_al (bl0 _) _) _)) hb | exact bl_tr (bl_al (bl_al (bl_al (bl0 _) _) _) _) hb | exact bl_tr (bl_dr (bl_al (bl_al (bl_al (bl0 _) _) _) _)) hb | exact bl_tr (bl_al (bl_al (bl_al (bl_al (bl0 _) _) _) _) _) hb | exact bl_tr (bl_dr (bl_al (bl_al (bl_al (bl_al (bl0 _) _) _) _) _)) hb | exact bl_tr (bl_al (bl_al (bl_al (bl_al (bl_al (bl0 _) _) _) _) _) _) hb | exact bl_tr (bl_dr (bl_al (bl_al (bl_al (bl_al (bl_al (bl0 _) _) _) _) _) _)) hb | exact bl_tr (bl_al (bl_al (bl_al (bl_al (bl_al (bl_al (bl0 _) _) _) _) _) _) _) hb | exact bl_tr (bl_dr (bl_al (bl_al (bl_al (bl_al (bl_al (bl_al (bl0 _) _) _) _) _) _) _)) hb | exact bl_tr (bl_dr (bl0 _)) hb
      replace hA := bl_tr hA hk
      clear hb hk
      go_wp2
      go_ret
      exact ⟨rfl, hA⟩
  · obtain ⟨h1, h2, h3, h4, h5, h6, h7, h8⟩ := inB_iff.1 hi
    obtain ⟨m1, m2⟩ := mul_bd h7 (by omega) h1 h2
    obtain ⟨s0, s1, a0, a1⟩ := pair0 w (.int .i64 W) (.int .i64 H) (.int .i64 X) (.int .i64 Y) 23 25
    have hk := bl0
      ((w.alloc (.cells #[.int .i64 W, .int .i64 H] 23)).alloc (.cells #[.int .i64 X, .int .i64 Y] 25))
    go_enter Tryd.func3, Tryd.ntmps3
    go_wp2
    go_region_held3 (fun w' => w'.cell? ⟨w.heap.size, 0, none⟩ = some (.int .i64 W) ∧ w'.cell? ⟨w.heap.size, 1, none⟩ = some (.int .i64 H) ∧ w'.cell? ⟨w.heap.size + 1, 0, none⟩ = some (.int .i64 X) ∧ w'.cell? ⟨w.heap.size + 1, 1, none⟩ = some (.int .i64 Y))
      (first | exact ⟨cell_later hk s0, cell_later hk s1, cell_later hk a0, cell_later hk a1⟩ | exact ⟨cell_later (bl_dr hk) s0, cell_later (bl_dr hk) s1, cell_later (bl_dr hk) a0, cell_later (bl_dr hk) a1⟩)
      (first
      | (go_at_call 11; refine (may_any _ _ _).mono ?_; rintro e w1 ⟨rfl, hb⟩; replace hk := bl_tr (bl_dr hk) hb; clear hb)
      | (go_at_call 12; refine (rmay_any _ _ _).mono ?_; rintro e w2 ⟨rfl, hb⟩; replace hk := bl_tr hk hb; clear hb)
      | (go_at_call 13; refine (in_any _ _ _ _ _).mono ?_; rintro e w3 ⟨rfl, hb⟩; replace hk := bl_tr hk hb; clear hb)
      | (go_at_call 14; refine (rin_any _ _ _ _ _).mono ?_; rintro e w4 ⟨rfl, hb⟩; replace hk := bl_tr hk hb; clear hb))
    have hA := bl_tr (bl_al (bl_al (bl0 _) _) _) hk
    replace s0 := cell_later hk s0
    replace s1 := cell_later hk s1
    replace a0 := cell_later hk a0
    replace a1 := cell_later hk a1
    clear hk
    go_wp2_with fail
    refine (index_yes _ _ _ _ _ hi).mono ?_
    rintro e w5 ⟨rfl, hb⟩
    have hk : Below w4.heap.size w4 w5 := by first | exact hb | exact bl_tr (bl_al (bl0 _) _) hb | exact bl_tr (bl_dr (bl_al (bl0 _) _)) hb | exact bl_tr (bl_al (bl_al (bl0 _) _) _) hb | exact bl_tr (bl_dr (bl_al (bl_al (bl0 _) _) _)) hb | exact bl_tr (bl_al (bl_al (bl_al (bl0 _) _) _) _) hb | exact bl_tr (bl_dr (bl_al (bl_al (bl_al (bl0 _) _) _) _)) hb | exact bl_tr (bl_al (bl_al (bl_al (bl_al (bl0 _) _) _) _) _) hb | exact bl_tr (bl_dr (bl_al (bl_al (bl_al (bl_al (bl0 _) _) _) _) _)) hb | exact bl_tr (bl_al (bl_al (bl_al (bl_al (bl_al (bl0 _) _) _) _) _) _) hb | exact bl_tr (bl_dr (bl_al (bl_al (bl_al (bl_al (bl_al (bl0 _) _) _) _) _) _)) hb | exact bl_tr (bl_al (bl_al (bl_al (bl_al (bl_al (bl_al (bl0 _) _) _) _) _) _) _) hb | exact bl_tr (bl_dr (bl_al (bl_al (bl_al (bl_al (bl_al (bl_al (bl0 _) _) _) _) _) _) _)) hb | exact bl_tr (bl_dr (bl0 _)) hb
    replace hA := bl_tr hA hk
    replace s0 := cell_later hk s0
    replace s1 := cell_later hk s1
    replace a0 := cell_later hk a0
    replace a1 := cell_later hk a1
    clear hb hk
    have zs0 := blk_lt s0
    have zs1 := blk_lt s1
    have za0 := blk_lt a0
    have za1 := blk_lt a1
    go_wp2_with fail
    refine (rin_any _ _ _ _ _).mono ?_
    rintro e w6 ⟨rfl, hb⟩
    have hk : Below w5.heap.size w5 w6 := by first | exact hb | exact bl_tr (bl_al (bl0 _) _) hb | exact bl_tr (bl_dr (bl_al (bl0 _) _)) hb | exact bl_tr (bl_al (bl_al (bl0 _) _) _) hb | exact bl_tr (bl_dr (bl_al (bl_al (bl0 _) _) _)) hb | exact bl_tr (bl_al (bl_al (bl_al (bl0 _) _) _) _) hb | exact bl_tr (bl_dr (bl_al (bl_al (bl_al (bl0 _) _) _) _)) hb | exact bl_tr (bl_al (bl_al (bl_al (bl_al (bl0 _) _) _) _) _) hb | exact bl_tr (bl_dr (bl_al (bl_al (bl_al (bl_al (bl0 _) _) _) _) _)) hb | exact bl_tr (bl_al (bl_al (bl_al (bl_al (bl_al (bl0 _) _) _) _) _) _) hb | exact bl_tr (bl_dr (bl_al (bl_al (bl_al (bl_al (bl_al (bl0 _) _) _) _) _) _)) hb | exact bl_tr (bl_al (bl_al (bl_al (bl_al (bl_al (bl_al (bl0 _) _) _) _) _) _) _) hb | exact bl_tr (bl_dr (bl_al (bl_al (bl_al (bl_al (bl_al (bl_al (bl0 _) _) _) _) _) _) _)) hb | exact bl_tr (bl_dr (bl0 _)) hb
    replace hA := bl_tr hA hk
    replace s0 := cell_later hk s0
    replace s1 := cell_later hk s1
    replace a0 := cell_later hk a0
    replace a1 := cell_later hk a1
    clear hb hk
    have zs0 := blk_lt s0
    have zs1 := blk_lt s1
    have za0 := blk_lt a0
    have za1 := blk_lt a1
    go_wp2_with fail
    refine (at_no _ _ _ _ ht).mono ?_
    rintro e w7 ⟨rfl, hb⟩
    have hk : Below w6.heap.size w6 w7 := by first | exact hb | exact bl_tr (bl_al (bl0 _) _) hb | exact bl_tr (bl_dr (bl_al (bl0 _) _)) hb | exact bl_tr (bl_al (bl_al (bl0 _) _) _) hb | exact bl_tr (bl_dr (bl_al (bl_al (bl0 _) _) _)) hb | exact bl_tr (bl_al (bl_al (bl_al (bl0 _) _) _) _) hb | exact bl_tr (bl_dr (bl_al (bl_al (bl_al (bl0 _) _) _) _)) hb | exact bl_tr (bl_al (bl_al (bl_al (bl_al (bl0 _) _) _) _) _) hb | exact bl_tr (bl_dr (bl_al (bl_al (bl_al (bl_al (bl0 _) _) _) _) _)) hb | exact bl_tr (bl_al (bl_al (bl_al (bl_al (bl_al (bl0 _) _) _) _) _) _) hb | exact bl_tr (bl_dr (bl_al (bl_al (bl_al (bl_al (bl_al (bl0 _) _) _) _) _) _)) hb | exact bl_tr (bl_al (bl_al (bl_al (bl_al (bl_al (bl_al (bl0 _) _) _) _) _) _) _) hb | exact bl_tr (bl_dr (bl_al (bl_al (bl_al (bl_al (bl_al (bl_al (bl0 _) _) _) _) _) _) _)) hb | exact bl_tr (bl_dr (bl0 _)) hb
    replace hA := bl_tr hA hk
    replace s0 := cell_later hk s0
    replace s1 := cell_later hk s1
    clear hb hk
    have zs0 := blk_lt s0
    have zs1 := blk_lt s1
    go_wp2_with fail
    refine (rmay_any _ _ _).mono ?_
    rintro e w8 ⟨rfl, hb⟩
    have hk : Below w7.heap.size w7 w8 := by first | exact hb | exact bl_tr (bl_al (bl0 _) _) hb | exact bl_tr (bl_dr (bl_al (bl0 _) _)) hb | exact bl_tr (bl_al (bl_al (bl0 _) _) _) hb | exact bl_tr (bl_dr (bl_al (bl_al (bl0 _) _) _)) hb | exact bl_tr (bl_al (bl_al (bl_al (bl0 _) _) _) _) hb | exact bl_tr (bl_dr (bl_al (bl_al (bl_al (bl0 _) _) _) _)) hb | exact bl_tr (bl_al (bl_al (bl_al (bl_al (bl0 _) _) _) _) _) hb | exact bl_tr (bl_dr (bl_al (bl_al (bl_al (bl_al (bl0 _) _) _) _) _)) hb | exact bl_tr (bl_al (bl_al (bl_al (bl_al (bl_al (bl0 _) _) _) _) _) _) hb | exact bl_tr (bl_dr (bl_al (bl_al (bl_al (bl_al (bl_al (bl0 _) _) _) _) _) _)) hb | exact bl_tr (bl_al (bl_al (bl_al (bl_al (bl_al (bl_al (bl0 _) _) _) _) _) _) _) hb | exact bl_tr (bl_dr (bl_al (bl_al (bl_al (bl_al (bl_al (bl_al (bl0 _) _) _) _) _) _) _)) hb | exact bl_tr (bl_dr (bl0 _)) hb
    replace hA := bl_tr hA hk
    replace s0 := cell_later hk s0
    replace s1 := cell_later hk s1
    have c0 := cell_later hb (v := .int .i64 0) (a := ⟨w7.heap.size, 0, none⟩) (by simp [go_sem])
    have c1 := cell_later hb (v := .int .i64 0) (a := ⟨w7.heap.size, 1, none⟩) (by simp [go_sem])
    clear hb hk
    have zs0 := blk_lt s0
    have zs1 := blk_lt s1
    have zc0 := blk_lt c0
    have zc1 := blk_lt c1
    go_wp2_with fail
    refine (rcells_yes W H _ hW hH).mono ?_
    rintro e w9 ⟨v, rfl, hown, hb⟩
    replace hA := bl_tr hA hb
    replace c0 := cell_later hb c0
    replace c1 := cell_later hb c1
    clear hb
    rw [hN] at hown
    obtain ⟨g, cap, rfl, hl⟩ := flat_cells hown hN0
    clear hown
    clear hl
    by_cases hl : i < 0
    all_goals
      go_wp2_with fail
      refine (awake_any _ (hs.below (by first | exact hA | exact (bl_al hA _) | exact (bl_dr (bl_al hA _)) | exact (bl_al (bl_al hA _) _) | exact (bl_dr (bl_al (bl_al hA _) _)) | exact (bl_al (bl_al (bl_al hA _) _) _) | exact (bl_dr (bl_al (bl_al (bl_al hA _) _) _)) | exact (bl_al (bl_al (bl_al (bl_al hA _) _) _) _) | exact (bl_dr (bl_al (bl_al (bl_al (bl_al hA _) _) _) _)) | exact (bl_al (bl_al (bl_al (bl_al (bl_al hA _) _) _) _) _) | exact (bl_dr (bl_al (bl_al (bl_al (bl_al (bl_al hA _) _) _) _) _)) | exact (bl_al (bl_al (bl_al (bl_al (bl_al (bl_al hA _) _) _) _) _) _) | exact (bl_dr (bl_al (bl_al (bl_al (bl_al (bl_al (bl_al hA _) _) _) _) _) _)) | exact (bl_dr hA)))).mono ?_
      rintro e wx ⟨rfl, hb⟩
      have hk : Below w9.heap.size w9 wx := by first | exact hb | exact bl_tr (bl_al (bl0 _) _) hb | exact bl_tr (bl_dr (bl_al (bl0 _) _)) hb | exact bl_tr (bl_al (bl_al (bl0 _) _) _) hb | exact bl_tr (bl_dr (bl_al (bl_al (bl0 _) _) _)) hb | exact bl_tr (bl_al (bl_al (bl_al (bl0 _) _) _) _) hb | exact bl_tr (bl_dr (bl_al (bl_al (bl_al (bl0 _) _) _) _)) hb | exact bl_tr (bl_al (bl_al (bl_al (bl_al (bl0 _) _) _) _) _) hb | exact bl_tr (bl_dr (bl_al (bl_al (bl_al (bl_al (bl0 _) _) _) _) _)) hb | exact bl_tr (bl_al (bl_al (bl_al (bl_al (bl_al (bl0 _) _) _) _) _) _) hb | exact bl_tr (bl_dr (bl_al (bl_al (bl_al (bl_al (bl_al (bl0 _) _) _) _) _) _)) hb | exact bl_tr (bl_al (bl_al (bl_al (bl_al (bl_al (bl_al (bl0 _) _) _) _) _) _) _) hb | exact bl_tr (bl_dr (bl_al (bl_al (bl_al (bl_al (bl_al (bl_al (bl0 _) _) _) _) _) _) _)) hb | exact bl_tr (bl_dr (bl0 _)) hb
      replace hA := bl_tr hA hk
      clear hb hk
      go_wp2
      go_ret
      exact ⟨rfl, hA⟩


set_option maxRecDepth 100000 in
set_option maxHeartbeats 3200000 in
theorem index_at (W H N j : Nat) (X Y P Q : Int) (w : World) (hs : Stp w) (hm : mayB W H = true) (hW : W ≤ 256) (hH : H ≤ 256) (hN : H * W = N) (hN0 : 0 < N) (ht : atB W H j = true) (hj : j < N)
    (HP : Hid ((j : Int) % (W : Int) = P)) (HQ : Hid ((j : Int) / (W : Int) = Q)) (HP' : Hid (((j % W : Nat) : Int) = P)) (HQ' : Hid (((j / W : Nat) : Int) = Q)) : Calls
    Tryd.prog 3 #[.agg #[.int .i64 W, .int .i64 H], .agg #[.int .i64 X, .int .i64 Y], .int .i64 j] w (Ok w) := by
  have hj' : (j : Int) < (N : Int) := by omega
  have hj0 : ¬ (j : Int) < 0 := by omega
  cases hi : inB W H X Y
  · --
    obtain ⟨s0, s1, a0, a1⟩ := pair0 w (.int .i64 W) (.int .i64 H) (.int .i64 X) (.int .i64 Y) 23 25
    have hk := bl0
      ((w.alloc (.cells #[.int .i64 W, .int .i64 H] 23)).alloc (.cells #[.int .i64 X, .int .i64 Y] 25))
    go_enter Tryd.func3, Tryd.ntmps3
    go_wp2
    go_region_held3 (fun w' => w'.cell? ⟨w.heap.size, 0, none⟩ = some (.int .i64 W) ∧ w'.cell? ⟨w.heap.size, 1, none⟩ = some (.int .i64 H) ∧ w'.cell? ⟨w.heap.size + 1, 0, none⟩ = some (.int .i64 X) ∧ w'.cell? ⟨w.heap.size + 1, 1, none⟩ = some (.int .i64 Y))
      (first | exact ⟨cell_later hk s0, cell_later hk s1, cell_later hk a0, cell_later hk a1⟩ | exact ⟨cell_later (bl_dr hk) s0, cell_later (bl_dr hk) s1, cell_later (bl_dr hk) a0, cell_later (bl_dr hk) a1⟩)
      (first
      | (go_at_call 11; refine (may_any _ _ _).mono ?_; rintro e w1 ⟨rfl, hb⟩; replace hk := bl_tr (bl_dr hk) hb; clear hb)
      | (go_at_call 12; refine (rmay_any _ _ _).mono ?_; rintro e w2 ⟨rfl, hb⟩; replace hk := bl_tr hk hb; clear hb)
      | (go_at_call 13; refine (in_any _ _ _ _ _).mono ?_; rintro e w3 ⟨rfl, hb⟩; replace hk := bl_tr hk hb; clear hb)
      | (go_at_call 14; refine (rin_any _ _ _ _ _).mono ?_; rintro e w4 ⟨rfl, hb⟩; replace hk := bl_tr hk hb; clear hb))
    have hA := bl_tr (bl_al (bl_al (bl0 _) _) _) hk
    replace s0 := cell_later hk s0
    replace s1 := cell_later hk s1
    replace a0 := cell_later hk a0
    replace a1 := cell_later hk a1
    clear hk
    go_wp2_with fail
    refine (index_no _ _ _ _ _ hi).mono ?_
    rintro e w5 ⟨rfl, hb⟩
    have hk : Below w4.heap.size w4 w5 := by first | exact hb | exact bl_tr (bl_al (bl0 _) _) hb | exact bl_tr (bl_dr (bl_al (bl0 _) _)) hb | exact bl_tr (bl_al (bl_al (bl0 _) _) _) hb | exact bl_tr (bl_dr (bl_al (bl_al (bl0 _) _) _)) hb | exact bl_tr (bl_al (bl_al (bl_al (bl0 _) _) _) _) hb | exact bl_tr (bl_dr (bl_al (bl_al (bl_al (bl0 _) _) _) _)) hb | exact bl_tr (bl_al (bl_al (bl_al (bl_al (bl0 _) _) _) _) _) hb | exact bl_tr (bl_dr (bl_al (bl_al (bl_al (bl_al (bl0 _) _) _) _) _)) hb | exact bl_tr (bl_al (bl_al (bl_al (bl_al (bl_al (bl0 _) _) _) _) _) _) hb | exact bl_tr (bl_dr (bl_al (bl_al (bl_al (bl_al (bl_al (bl0 _) _) _) _) _) _)) hb | exact bl_tr (bl_al (bl_al (bl_al (bl_al (bl_al (bl_al (bl0 _) _) _) _) _) _) _) hb | exact bl_tr (bl_dr (bl_al (bl_al (bl_al (bl_al (bl_al (bl_al (bl0 _) _) _) _) _) _) _)) hb | exact bl_tr (bl_dr (bl0 _)) hb
    replace hA := bl_tr hA hk
    replace s0 := cell_later hk s0
    replace s1 := cell_later hk s1
    replace a0 := cell_later hk a0
    replace a1 := cell_later hk a1
    clear hb hk
    have zs0 := blk_lt s0
    have zs1 := blk_lt s1
    have za0 := blk_lt a0
    have za1 := blk_lt a1
    go_wp2_with fail
    refine (rin_any _ _ _ _ _).mono ?_
    rintro e w6 ⟨rfl, hb⟩
    have hk : Below w5.heap.size w5 w6 := by first | exact hb | exact bl_tr (bl_al (bl0 _) _) hb | exact bl_tr (bl_dr (bl_al (bl0 _) _)) hb | exact bl_tr (bl_al (bl_al (bl0 _) _) _) hb | exact bl_tr (bl_dr (bl_al (bl_al (bl0 _) _) _)) hb | exact bl_tr (bl_al (bl_al (bl_al (bl0 _) _) _) _) hb | exact bl_tr (bl_dr (bl_al (bl_al (bl_al (bl0 _) _) _) _)) hb | exact bl_tr (bl_al (bl_al (bl_al (bl_al (bl0 _) _) _) _) _) hb | exact bl_tr (bl_dr (bl_al (bl_al (bl_al (bl_al (bl0 _) _) _) _) _)) hb | exact bl_tr (bl_al (bl_al (bl_al (bl_al (bl_al (bl0 _) _) _) _) _) _) hb | exact bl_tr (bl_dr (bl_al (bl_al (bl_al (bl_al (bl_al (bl0 _) _) _) _) _) _)) hb | exact bl_tr (bl_al (bl_al (bl_al (bl_al (bl_al (bl_al (bl0 _) _) _) _) _) _) _) hb | exact bl_tr (bl_dr (bl_al (bl_al (bl_al (bl_al (bl_al (bl_al (bl0 _) _) _) _) _) _) _)) hb | exact bl_tr (bl_dr (bl0 _)) hb
    replace hA := bl_tr hA hk
    replace s0 := cell_later hk s0
    replace s1 := cell_later hk s1
    replace a0 := cell_later hk a0
    replace a1 := cell_later hk a1
    clear hb hk
    have zs0 := blk_lt s0
    have zs1 := blk_lt s1
    have za0 := blk_lt a0
    have za1 := blk_lt a1
    go_wp2_with fail
    refine (at_any' _ _ _ _ _ _ ht HP.out HQ.out).mono ?_
    rintro e w7 ⟨rfl, hb⟩
    have hk : Below w6.heap.size w6 w7 := by first | exact hb | exact bl_tr (bl_al (bl0 _) _) hb | exact bl_tr (bl_dr (bl_al (bl0 _) _)) hb | exact bl_tr (bl_al (bl_al (bl0 _) _) _) hb | exact bl_tr (bl_dr (bl_al (bl_al (bl0 _) _) _)) hb | exact bl_tr (bl_al (bl_al (bl_al (bl0 _) _) _) _) hb | exact bl_tr (bl_dr (bl_al (bl_al (bl_al (bl0 _) _) _) _)) hb | exact bl_tr (bl_al (bl_al (bl_al (bl_al (bl0 _) _) _) _) _) hb | exact bl_tr (bl_dr (bl_al (bl_al (bl_al (bl_al (bl0 _) _) _) _) _)) hb | exact bl_tr (bl_al (bl_al (bl_al (bl_al (bl_al (bl0 _) _) _) _) _) _) hb | exact bl_tr (bl_dr (bl_al (bl_al (bl_al (bl_al (bl_al (bl0 _) _) _) _) _) _)) hb | exact bl_tr (bl_al (bl_al (bl_al (bl_al (bl_al (bl_al (bl0 _) _) _) _) _) _) _) hb | exact bl_tr (bl_dr (bl_al (bl_al (bl_al (bl_al (bl_al (bl_al (bl0 _) _) _) _) _) _) _)) hb | exact bl_tr (bl_dr (bl0 _)) hb
    replace hA := bl_tr hA hk
    replace s0 := cell_later hk s0
    replace s1 := cell_later hk s1
    clear hb hk
    have zs0 := blk_lt s0
    have zs1 := blk_lt s1
    go_wp2_with fail
    refine (rmay_any _ _ _).mono ?_
    rintro e w8 ⟨rfl, hb⟩
    have hk : Below w7.heap.size w7 w8 := by first | exact hb | exact bl_tr (bl_al (bl0 _) _) hb | exact bl_tr (bl_dr (bl_al (bl0 _) _)) hb | exact bl_tr (bl_al (bl_al (bl0 _) _) _) hb | exact bl_tr (bl_dr (bl_al (bl_al (bl0 _) _) _)) hb | exact bl_tr (bl_al (bl_al (bl_al (bl0 _) _) _) _) hb | exact bl_tr (bl_dr (bl_al (bl_al (bl_al (bl0 _) _) _) _)) hb | exact bl_tr (bl_al (bl_al (bl_al (bl_al (bl0 _) _) _) _) _) hb | exact bl_tr (bl_dr (bl_al (bl_al (bl_al (bl_al (bl0 _) _) _) _) _)) hb | exact bl_tr (bl_al (bl_al (bl_al (bl_al (bl_al (bl0 _) _) _) _) _) _) hb | exact bl_tr (bl_dr (bl_al (bl_al (bl_al (bl_al (bl_al (bl0 _) _) _) _) _) _)) hb | exact bl_tr (bl_al (bl_al (bl_al (bl_al (bl_al (bl_al (bl0 _) _) _) _) _) _) _) hb | exact bl_tr (bl_dr (bl_al (bl_al (bl_al (bl_al (bl_al (bl_al (bl0 _) _) _) _) _) _) _)) hb | exact bl_tr (bl_dr (bl0 _)) hb
    replace hA := bl_tr hA hk
    replace s0 := cell_later hk s0
    replace s1 := cell_later hk s1
    have c0 := cell_later hb (v := .int .i64 P) (a := ⟨w7.heap.size, 0, none⟩) (by simp [go_sem])
    have c1 := cell_later hb (v := .int .i64 Q) (a := ⟨w7.heap.size, 1, none⟩) (by simp [go_sem])
    clear hb hk
    have zs0 := blk_lt s0
    have zs1 := blk_lt s1
    have zc0 := blk_lt c0
    have zc1 := blk_lt c1
    go_wp2_with fail
    refine (rcells_yes W H _ hW hH).mono ?_
    rintro e w9 ⟨v, rfl, hown, hb⟩
    replace hA := bl_tr hA hb
    replace c0 := cell_later hb c0
    replace c1 := cell_later hb c1
    clear hb
    rw [hN] at hown
    obtain ⟨g, cap, rfl, hl⟩ := flat_cells hown hN0
    clear hown
    obtain ⟨l0, l1⟩ := hl j hj
    clear hl
    rw [HP'.out] at l0
    rw [HQ'.out] at l1
    have zc := blk_lt c0
    have zl := blk_lt l0
    have hk := bl0 w9
    go_wp2
    go_region_held3 (fun w' => w'.cell? ⟨w7.heap.size, 0, none⟩ = some (.int .i64 P) ∧ w'.cell? ⟨w7.heap.size, 1, none⟩ = some (.int .i64 Q) ∧ w'.cell? ⟨g, j * 2, none⟩ = some (.int .i64 P) ∧ w'.cell? ⟨g, j * 2 + 1, none⟩ = some (.int .i64 Q))
      (first | exact ⟨cell_later hk c0, cell_later hk c1, cell_later hk l0, cell_later hk l1⟩ | exact ⟨cell_later (bl_dr hk) c0, cell_later (bl_dr hk) c1, cell_later (bl_dr hk) l0, cell_later (bl_dr hk) l1⟩)
      (first | (go_at_call 17; refine (awake_any _ (hs.below (bl_dr hA))).mono ?_; rintro e wz ⟨rfl, hb⟩; replace hk := bl_tr (bl_dr hk) hb; clear hb))
    go_wp2
    go_ret
    exact ⟨rfl, bl_tr hA hk⟩
  · obtain ⟨h1, h2, h3, h4, h5, h6, h7, h8⟩ := inB_iff.1 hi
    obtain ⟨m1, m2⟩ := mul_bd h7 (by omega) h1 h2
    obtain ⟨s0, s1, a0, a1⟩ := pair0 w (.int .i64 W) (.int .i64 H) (.int .i64 X) (.int .i64 Y) 23 25
    have hk := bl0
      ((w.alloc (.cells #[.int .i64 W, .int .i64 H] 23)).alloc (.cells #[.int .i64 X, .int .i64 Y] 25))
    go_enter Tryd.func3, Tryd.ntmps3
    go_wp2
    go_region_held3 (fun w' => w'.cell? ⟨w.heap.size, 0, none⟩ = some (.int .i64 W) ∧ w'.cell? ⟨w.heap.size, 1, none⟩ = some (.int .i64 H) ∧ w'.cell? ⟨w.heap.size + 1, 0, none⟩ = some (.int .i64 X) ∧ w'.cell? ⟨w.heap.size + 1, 1, none⟩ = some (.int .i64 Y))
      (first | exact ⟨cell_later hk s0, cell_later hk s1, cell_later hk a0, cell_later hk a1⟩ | exact ⟨cell_later (bl_dr hk) s0, cell_later (bl_dr hk) s1, cell_later (bl_dr hk) a0, cell_later (bl_dr hk) a1⟩)
      (first
      | (go_at_call 11; refine (may_any _ _ _).mono ?_; rintro e w1 ⟨rfl, hb⟩; replace hk := bl_tr (bl_dr hk) hb; clear hb)
      | (go_at_call 12; refine (rmay_any _ _ _).mono ?_; rintro e w2 ⟨rfl, hb⟩; replace hk := bl_tr hk hb; clear hb)
      | (go_at_call 13; refine (in_any _ _ _ _ _).mono ?_; rintro e w3 ⟨rfl, hb⟩; replace hk := bl_tr hk hb; clear hb)
      | (go_at_call 14; refine (rin_any _ _ _ _ _).mono ?_; rintro e w4 ⟨rfl, hb⟩; replace hk := bl_tr hk hb; clear hb))
    have hA := bl_tr (bl_al (bl_al (bl0 _) _) _) hk
    replace s0 := cell_later hk s0
    replace s1 := cell_later hk s1
    replace a0 := cell_later hk a0
    replace a1 := cell_later hk a1
    clear hk
    go_wp2_with fail
    refine (index_yes _ _ _ _ _ hi).mono ?_
    rintro e w5 ⟨rfl, hb⟩
    have hk : Below w4.heap.size w4 w5 := by first | exact hb | exact bl_tr (bl_al (bl0 _) _) hb | exact bl_tr (bl_dr (bl_al (bl0 _) _)) hb | exact bl_tr (bl_al (bl_al (bl0 _) _) _) hb | exact bl_tr (bl_dr (bl_al (bl_al (bl0 _) _) _)) hb | exact bl_tr (bl_al (bl_al (bl_al (bl0 _) _) _) _) hb | exact bl_tr (bl_dr (bl_al (bl_al (bl_al (bl0 _) _) _) _)) hb | exact bl_tr (bl_al (bl_al (bl_al (bl_al (bl0 _) _) _) _) _) hb | exact bl_tr (bl_dr (bl_al (bl_al (bl_al (bl_al (bl0 _) _) _) _) _)) hb | exact bl_tr (bl_al (bl_al (bl_al (bl_al (bl_al (bl0 _) _) _) _) _) _) hb | exact bl_tr (bl_dr (bl_al (bl_al (bl_al (bl_al (bl_al (bl0 _) _) _) _) _) _)) hb | exact bl_tr (bl_al (bl_al (bl_al (bl_al (bl_al (bl_al (bl0 _) _) _) _) _) _) _) hb | exact bl_tr (bl_dr (bl_al (bl_al (bl_al (bl_al (bl_al (bl_al (bl0 _) _) _) _) _) _) _)) hb | exact bl_tr (bl_dr (bl0 _)) hb
    replace hA := bl_tr hA hk
    replace s0 := cell_later hk s0
    replace s1 := cell_later hk s1
    replace a0 := cell_later hk a0
    replace a1 := cell_later hk a1
    clear hb hk
    have zs0 := blk_lt s0
    have zs1 := blk_lt s1
    have za0 := blk_lt a0
    have za1 := blk_lt a1
    go_wp2_with fail
    refine (rin_any _ _ _ _ _).mono ?_
    rintro e w6 ⟨rfl, hb⟩
    have hk : Below w5.heap.size w5 w6 := by first | exact hb | exact bl_tr (bl_al (bl0 _) _) hb | exact bl_tr (bl_dr (bl_al (bl0 _) _)) hb | exact bl_tr (bl_al (bl_al (bl0 _) _) _) hb | exact bl_tr (bl_dr (bl_al (bl_al (bl0 _) _) _)) hb | exact bl_tr (bl_al (bl_al (bl_al (bl0 _) _) _) _) hb | exact bl_tr (bl_dr (bl_al (bl_al (bl_al (bl0 _) _) _) _)) hb | exact bl_tr (bl_al (bl_al (bl_al (bl_al (bl0 _) _) _) _) _) hb | exact bl_tr (bl_dr (bl_al (bl_al (bl_al (bl_al (bl0 _) _) _) _) _)) hb | exact bl_tr (bl_al (bl_al (bl_al (bl_al (bl_al (bl0 _) _) _) _) _) _) hb | exact bl_tr (bl_dr (bl_al (bl_al (bl_al (bl_al (bl_al (bl0 _) _) _) _) _) _)) hb | exact bl_tr (bl_al (bl_al (bl_al (bl_al (bl_al (bl_al (bl0 _) _) _) _) _) _) _) hb | exact bl_tr (bl_dr (bl_al (bl_al (bl_al (bl_al (bl_al (bl_al (bl0 _) _) _) _) _) _) _)) hb | exact bl_tr (bl_dr (bl0 _)) hb
    replace hA := bl_tr hA hk
    replace s0 := cell_later hk s0
    replace s1 := cell_later hk s1
    replace a0 := cell_later hk a0
    replace a1 := cell_later hk a1
    clear hb hk
    have zs0 := blk_lt s0
    have zs1 := blk_lt s1
    have za0 := blk_lt a0
    have za1 := blk_lt a1
    go_wp2_with fail
    refine (at_any' _ _ _ _ _ _ ht HP.out HQ.out).mono ?_
    rintro e w7 ⟨rfl, hb⟩
    have hk : Below w6.heap.size w6 w7 := by first | exact hb | exact bl_tr (bl_al (bl0 _) _) hb | exact bl_tr (bl_dr (bl_al (bl0 _) _)) hb | exact bl_tr (bl_al (bl_al (bl0 _) _) _) hb | exact bl_tr (bl_dr (bl_al (bl_al (bl0 _) _) _)) hb | exact bl_tr (bl_al (bl_al (bl_al (bl0 _) _) _) _) hb | exact bl_tr (bl_dr (bl_al (bl_al (bl_al (bl0 _) _) _) _)) hb | exact bl_tr (bl_al (bl_al (bl_al (bl_al (bl0 _) _) _) _) _) hb | exact bl_tr (bl_dr (bl_al (bl_al (bl_al (bl_al (bl0 _) _) _) _) _)) hb | exact bl_tr (bl_al (bl_al (bl_al (bl_al (bl_al (bl0 _) _) _) _) _) _) hb | exact bl_tr (bl_dr (bl_al (bl_al (bl_al (bl_al (bl_al (bl0 _) _) _) _) _) _)) hb | exact bl_tr (bl_al (bl_al (bl_al (bl_al (bl_al (bl_al (bl0 _) _) _) _) _) _) _) hb | exact bl_tr (bl_dr (bl_al (bl_al (bl_al (bl_al (bl_al (bl_al (bl0 _) _) _) _) _) _) _)) hb | exact bl_tr (bl_dr (bl0 _)) hb
    replace hA := bl_tr hA hk
    replace s0 := cell_later hk s0
    replace s1 := cell_later hk s1
    clear hb hk
    have zs0 := blk_lt s0
    have zs1 := blk_lt s1
    go_wp2_with fail
    refine (rmay_any _ _ _).mono ?_
    rintro e w8 ⟨rfl, hb⟩
    have hk : Below w7.heap.size w7 w8 := by first | exact hb | exact bl_tr (bl_al (bl0 _) _) hb | exact bl_tr (bl_dr (bl_al (bl0 _) _)) hb | exact bl_tr (bl_al (bl_al (bl0 _) _) _) hb | exact bl_tr (bl_dr (bl_al (bl_al (bl0 _) _) _)) hb | exact bl_tr (bl_al (bl_al (bl_al (bl0 _) _) _) _) hb | exact bl_tr (bl_dr (bl_al (bl_al (bl_al (bl0 _) _) _) _)) hb | exact bl_tr (bl_al (bl_al (bl_al (bl_al (bl0 _) _) _) _) _) hb | exact bl_tr (bl_dr (bl_al (bl_al (bl_al (bl_al (bl0 _) _) _) _) _)) hb | exact bl_tr (bl_al (bl_al (bl_al (bl_al (bl_al (bl0 _) _) _) _) _) _) hb | exact bl_tr (bl_dr (bl_al (bl_al (bl_al (bl_al (bl_al (bl0 _) _) _) _) _) _)) hb | exact bl_tr (bl_al (bl_al (bl_al (bl_al (bl_al (bl_al (bl0 _) _) _) _) _) _) _) hb | exact bl_tr (bl_dr (bl_al (bl_al (bl_al (bl_al (bl_al (bl_al (bl0 _) _) _) _) _) _) _)) hb | exact bl_tr (bl_dr (bl0 _)) hb
    replace hA := bl_tr hA hk
    replace s0 := cell_later hk s0
    replace s1 := cell_later hk s1
    have c0 := cell_later hb (v := .int .i64 P) (a := ⟨w7.heap.size, 0, none⟩) (by simp [go_sem])
    have c1 := cell_later hb (v := .int .i64 Q) (a := ⟨w7.heap.size, 1, none⟩) (by simp [go_sem])
    clear hb hk
    have zs0 := blk_lt s0
    have zs1 := blk_lt s1
    have zc0 := blk_lt c0
    have zc1 := blk_lt c1
    go_wp2_with fail
    refine (rcells_yes W H _ hW hH).mono ?_
    rintro e w9 ⟨v, rfl, hown, hb⟩
    replace hA := bl_tr hA hb
    replace c0 := cell_later hb c0
    replace c1 := cell_later hb c1
    clear hb
    rw [hN] at hown
    obtain ⟨g, cap, rfl, hl⟩ := flat_cells hown hN0
    clear hown
    obtain ⟨l0, l1⟩ := hl j hj
    clear hl
    rw [HP'.out] at l0
    rw [HQ'.out] at l1
    have zc := blk_lt c0
    have zl := blk_lt l0
    have hk := bl0 w9
    go_wp2
    go_region_held3 (fun w' => w'.cell? ⟨w7.heap.size, 0, none⟩ = some (.int .i64 P) ∧ w'.cell? ⟨w7.heap.size, 1, none⟩ = some (.int .i64 Q) ∧ w'.cell? ⟨g, j * 2, none⟩ = some (.int .i64 P) ∧ w'.cell? ⟨g, j * 2 + 1, none⟩ = some (.int .i64 Q))
      (first | exact ⟨cell_later hk c0, cell_later hk c1, cell_later hk l0, cell_later hk l1⟩ | exact ⟨cell_later (bl_dr hk) c0, cell_later (bl_dr hk) c1, cell_later (bl_dr hk) l0, cell_later (bl_dr hk) l1⟩)
      (first | (go_at_call 17; refine (awake_any _ (hs.below (bl_dr hA))).mono ?_; rintro e wz ⟨rfl, hb⟩; replace hk := bl_tr (bl_dr hk) hb; clear hb))
    go_wp2
    go_ret
    exact ⟨rfl, bl_tr hA hk⟩

theorem lindex_any (W H X Y i : Int) (w : World) (hs : Stp w) :
    Calls Tryd.prog 3 #[.agg #[.int .i64 W, .int .i64 H], .agg #[.int .i64 X, .int .i64 Y], .int .i64 i] w fun e w' => e = .returned (.bool true) ∧ Below w.heap.size w w' := by
  cases hm : mayB W H
  · exact index_no_may W H X Y i w hs hm
  obtain ⟨h1, h2, h3, h4⟩ := mayB_iff.1 hm
  obtain ⟨Wn, rfl⟩ := Int.eq_ofNat_of_zero_le (show 0 ≤ W by omega)
  obtain ⟨Hn, rfl⟩ := Int.eq_ofNat_of_zero_le (show 0 ≤ H by omega)
  have hN0 : 0 < Hn * Wn := Nat.mul_pos (by omega) (by omega)
  have hc : (Wn : Int) * (Hn : Int) = ((Hn * Wn : Nat) : Int) := by rw [Int.natCast_mul, Int.mul_comm]
  cases ht : atB Wn Hn i
  · have hj : i < 0 ∨ ((Hn * Wn : Nat) : Int) ≤ i := by
      have h5 : ¬ (1 ≤ (Wn : Int) ∧ (Wn : Int) ≤ 256 ∧ 1 ≤ (Hn : Int) ∧ (Hn : Int) ≤ 256 ∧ 0 ≤ i ∧ i < (Wn : Int) * (Hn : Int)) := by
        intro h
        have := atB_iff.2 h
        rw [ht] at this; cases this
      rw [hc] at h5
      omega
    exact index_out Wn Hn _ X Y i w hs hm (by omega) (by omega) rfl hN0 ht hj
  · obtain ⟨_, _, _, _, h5, h6⟩ := atB_iff.1 ht
    obtain ⟨j, rfl⟩ := Int.eq_ofNat_of_zero_le h5
    rw [hc] at h6
    exact index_at Wn Hn _ j X Y _ _ w hs hm (by omega) (by omega) rfl hN0 ht (by omega) rfl rfl (Int.natCast_emod _ _) (Int.natCast_ediv _ _)
end Go.Proofs.YtdacoeehhpnkbaaDoor
