/- The map: new, and what it tells. -/
import Derived.Test.YthnpoeobieninaaDoorVg
import Derived.Maps.AppendAt
import Derived.Deep.RegionWith
import Derived.Deep.RegionHeld3
import Derived.KernelRfl
namespace Go.Proofs.YthnpoeobieninaaDoor
open Go.RowKit

def cellsH (zs : List Int) : List Value := zs.map (Value.int .u16)
theorem cellsH_snoc (zs : List Int) (z : Int) : cellsH (zs ++ [z]) = cellsH zs ++ [.int .u16 z] := by simp [cellsH]
theorem cellsH_one (zs : List Int) : ∀ u ∈ cellsH zs, u.oneCell' = true := by
  intro u hu
  simp only [cellsH, List.mem_map] at hu
  obtain ⟨t, _, rfl⟩ := hu
  rfl
theorem cellsH_len (zs : List Int) : (cellsH zs).length = zs.length := by simp [cellsH]
theorem addr_add (b off i : Nat) : (⟨b, off, none⟩ : Addr).add i = ⟨b, off + i, none⟩ := by unfold Addr.add; split <;> simp_all
theorem own_later {w w' : World} {B : Nat} {e : TypeId} {size : Nat} {v : Value} {n : Nat} {xs : List Value} (h : w.ownsRow B e size v n xs) (hb : Below w.heap.size w w') : w'.ownsRow B e size v n xs := by
  refine ⟨h.1, ?_⟩
  rcases h.2 with h | ⟨g, cap, cur, h1, h2, h3, h4⟩
  · exact .inl h
  · exact .inr ⟨g, cap, cur, h1, h2, (hb.block g (Array.getElem?_eq_some_iff.1 h3).1).trans h3, h4⟩
theorem own_empty {w : World} {B : Nat} (t : TypeId) (hB : B ≤ w.heap.size) : (w.alloc (.cells #[] t)).ownsRow B t 1 (.slice (some ⟨w.heap.size, 0, none⟩) 0 0) 0 [] :=
  ⟨rfl, .inr ⟨w.heap.size, 0, #[], rfl, hB, heap_alloc_new w _, Nat.le_refl _, Nat.zero_le _, rfl, rfl⟩⟩
theorem rowH_of_own {w : World} {base : Nat} {v : Value} {zs : List Int} (h : w.ownsRow base 38 1 v zs.length (cellsH zs)) : ∃ a cap, v = .slice a zs.length cap ∧ RowH w a zs := by
  have hown := h
  rcases h.2 with ⟨rfl, h0⟩ | ⟨g, cap, cur, rfl, hb, hg, _⟩
  · refine ⟨none, 0, by rw [h0], .inl (List.eq_nil_of_length_eq_zero h0)⟩
  · refine ⟨_, cap, rfl, .inr ⟨g, 0, rfl, fun i z hz => ?_⟩⟩
    have a0 := hown.cells (g := g) rfl i (.int .u16 z) (by simp [cellsH, hz])
    rw [addr_add] at a0
    exact a0
theorem Tryd.infoH : (Tryd.prog.info? 38).map (fun i => (i.zero, i.size, i.bytes)) = some (some (.int .u16 0), 1, 2) := by kernel_rfl

theorem eql_nilH (b o n c : Nat) (w : World) : (binOp .eql 24 (.slice (some ⟨b, o, none⟩) n c) (.slice none 0 0)).run Tryd.prog w = .ok (.bool false) w := by
  kernel_rfl

set_option maxRecDepth 100000 in
set_option maxHeartbeats 1600000 in
theorem clone_any (a : Option Addr) (c : Nat) (xs : List Int) (w : World) (hr : RowH w a xs) (h0 : xs ≠ []) (hl : xs.length ≤ 1048576) :
    Calls Tryd.prog 44 #[.slice a xs.length c] w fun e w' => ∃ h cap, e = .returned (.slice (some ⟨h, 0, none⟩) xs.length cap) ∧ w'.ownsRow w.heap.size 38 1 (.slice (some ⟨h, 0, none⟩) xs.length cap) xs.length (cellsH xs) ∧ Below w.heap.size w w' := by
  obtain ⟨i0, hi, hz0, hz1, hz2⟩ := info_parts Tryd.infoH
  have hlen : 0 < xs.length := List.length_pos_iff.2 h0
  rcases hr with h | ⟨b, o, rfl, hc⟩
  · exact absurd h h0
  have hb1 := bl_al (bl0 w) (.cells #[] 38)
  have hown0 := own_empty (w := w) (B := w.heap.size) 38 (Nat.le_refl _)
  have hnil := eql_nilH b o xs.length c w
  go_enter Tryd.func44, Tryd.ntmps44
  go_wp2_with (at_builtin; refine wpList_append_own _ rfl _ _ 24 rfl w.heap.size 38 i0 (.int .u16 0) 1 2 Tryd.underlying24 hi hz0 hz1 hz2 rfl (by decide) _ _ _ rfl hown0 ⟨b, o, none⟩ xs.length c (cellsH xs) rfl ?c0 ?c1 ?c2 ?c3 ?c4 ?c5 ?_)
  case c0 => rw [cellsH_len, Nat.mul_one]
  case c1 =>
    intro j u hj
    simp only [cellsH, List.getElem?_map, Option.map_eq_some_iff] at hj
    obtain ⟨z, hz, rfl⟩ := hj
    rw [addr_add]
    exact cell_later hb1 (hc j z hz)
  case c2 => exact cellsH_one xs
  case c3 => unfold maxLen; omega
  case c4 => omega
  case c5 => rw [World.size_alloc]; omega
  intro v' w1 hown' hgrow _
  have hB1 : Below w.heap.size w w1 := hb1.grown hgrow (by rw [World.size_alloc]; omega) (fun j hj => by simp [Value.ownBlock] at hj; omega)
  obtain ⟨g, cap, rfl⟩ : ∃ g cap, v' = .slice (some ⟨g, 0, none⟩) xs.length cap := by
    rcases hown'.2 with ⟨_, h⟩ | ⟨g, cap, cur, h, _⟩
    · omega
    · exact ⟨g, cap, h⟩
  go_wp2
  go_ret
  exact ⟨g, cap, rfl, hown', hB1⟩

theorem own_base {w : World} {B B' : Nat} {e : TypeId} {size : Nat} {v : Value} {n : Nat} {xs : List Value} (h : w.ownsRow B e size v n xs) (hb : B' ≤ B) : w.ownsRow B' e size v n xs := by
  refine ⟨h.1, ?_⟩
  rcases h.2 with h | ⟨g, cap, cur, h1, h2, h3, h4⟩
  · exact .inl h
  · exact .inr ⟨g, cap, cur, h1, Nat.le_trans hb h2, h3, h4⟩
theorem cell_low {a b : World} {n k o : Nat} {v : Value} (h : Below n a b) (hk : k < n) (c : a.cell? ⟨k, o, none⟩ = some v) : b.cell? ⟨k, o, none⟩ = some v := (h.cell (p := ⟨k, o, none⟩) hk).trans c
theorem low_st {a b : World} {n k o : Nat} (h : Below n a b) (hk : n ≤ k) (u : Value) : Below n a (b.setCell ⟨k, o, none⟩ u) := h.setCell (p := ⟨k, o, none⟩) hk u

set_option maxHeartbeats 1600000 in
theorem own_any (W H : Int) (a : Option Addr) (c : Nat) (xs : List Int) (w : World) (hr : RowH w a xs) (h0 : xs ≠ []) (hl : xs.length ≤ 1048576) :
    Calls Tryd.prog 28 #[.agg #[.int .i64 W, .int .i64 H, .slice a xs.length c]] w fun e w' => ∃ h cap, e = .returned (.agg #[.int .i64 W, .int .i64 H, .slice (some ⟨h, 0, none⟩) xs.length cap]) ∧ w'.ownsRow w.heap.size 38 1 (.slice (some ⟨h, 0, none⟩) xs.length cap) xs.length (cellsH xs) ∧ Below w.heap.size w w' := by
  obtain ⟨w0, hw0⟩ : ∃ w0, (w.alloc (.cells #[.int .i64 W, .int .i64 H, .slice a xs.length c] 26)).alloc (.cells #[.int .i64 0, .int .i64 0, .slice none 0 0] 26) = w0 := ⟨_, rfl⟩
  have hz : w0.heap.size = w.heap.size + 2 := by rw [← hw0]; simp
  have hb0 : Below w.heap.size w w0 := by rw [← hw0]; exact bl_al (bl_al (bl0 _) _) _
  have s0 : w0.cell? ⟨w.heap.size, 0, none⟩ = some (.int .i64 W) := by rw [← hw0]; simp [go_sem]
  have s1 : w0.cell? ⟨w.heap.size, 1, none⟩ = some (.int .i64 H) := by rw [← hw0]; simp [go_sem]
  have s2 : w0.cell? ⟨w.heap.size, 2, none⟩ = some (.slice a xs.length c) := by rw [← hw0]; simp [go_sem]
  have f0 : w0.frozen? ⟨w.heap.size + 1, 0, none⟩ = false := by rw [← hw0]; simp [go_sem]
  have f1 : w0.frozen? ⟨w.heap.size + 1, 1, none⟩ = false := by rw [← hw0]; simp [go_sem]
  have f2 : w0.frozen? ⟨w.heap.size + 1, 2, none⟩ = false := by rw [← hw0]; simp [go_sem]
  have t0 : w0.cell? ⟨w.heap.size + 1, 0, none⟩ = some (.int .i64 0) := by rw [← hw0]; simp [go_sem]
  have t1 : w0.cell? ⟨w.heap.size + 1, 1, none⟩ = some (.int .i64 0) := by rw [← hw0]; simp [go_sem]
  have t2 : w0.cell? ⟨w.heap.size + 1, 2, none⟩ = some (.slice none 0 0) := by rw [← hw0]; simp [go_sem]
  have hr0 := hr.below hb0
  have HW := Lib.hid hw0
  clear hw0 hr
  go_enter Tryd.func28, Tryd.ntmps28
  go_wp2
  rw [HW.out]
  have hB := bl_dr (bl0 w0)
  go_region_held3 (fun w2 => w2.cell? ⟨w.heap.size, 0, none⟩ = some (.int .i64 W) ∧ w2.cell? ⟨w.heap.size, 1, none⟩ = some (.int .i64 H) ∧ w2.cell? ⟨w.heap.size, 2, none⟩ = some (.slice a xs.length c))
    (first | exact ⟨cell_later hB s0, cell_later hB s1, cell_later hB s2⟩ | (have hC := low_st (o := 2) (low_st (o := 1) (low_st (o := 0) (hB.mono (show w.heap.size + 1 ≤ w0.heap.size by omega)) (Nat.le_refl _) (.int .i64 W)) (Nat.le_refl _) (.int .i64 H)) (Nat.le_refl _) (.slice (some ⟨hh, 0, none⟩) xs.length cap); exact ⟨cell_low hC (by omega) s0, cell_low hC (by omega) s1, cell_low hC (by omega) s2⟩))
    ((go_at_call 44; refine (clone_any a c xs _ (hr0.below hB) h0 hl).mono ?_; rintro e W2 ⟨hh, cap, rfl, hown, hb⟩; replace hown := own_base hown hB.size; replace hB := bl_tr hB hb; replace f0 := frozen_later hB t0 f0; replace f1 := frozen_later hB t1 f1; replace f2 := frozen_later hB t2 f2; replace t0 := cell_later hB t0; replace t1 := cell_later hB t1; replace t2 := cell_later hB t2; clear hb))
  all_goals
    have ho := ownsRow_setCell_below (ownsRow_setCell_below (ownsRow_setCell_below hown (a := ⟨w.heap.size + 1, 0, none⟩) (by simp; omega) (.int .i64 W)) (a := ⟨w.heap.size + 1, 1, none⟩) (by simp; omega) (.int .i64 H)) (a := ⟨w.heap.size + 1, 2, none⟩) (by simp; omega) (.slice (some ⟨hh, 0, none⟩) xs.length cap)
    have hf := bl_st (bl_st (bl_st (bl_tr hb0 hB) (show w.heap.size ≤ w.heap.size + 1 by omega) (o := 0) (.int .i64 W)) (show w.heap.size ≤ w.heap.size + 1 by omega) (o := 1) (.int .i64 H)) (show w.heap.size ≤ w.heap.size + 1 by omega) (o := 2) (.slice (some ⟨hh, 0, none⟩) xs.length cap)
    have HO := Lib.hid (own_base ho (show w.heap.size ≤ w0.heap.size by omega))
    have HF := Lib.hid hf
    clear ho hf hown
    go_wp2
    refine bodyPost_ret (v := .agg #[.int .i64 W, .int .i64 H, .slice (some ⟨hh, 0, none⟩) xs.length cap]) (by simp [results, Tryd.results28, go_sem, t0, t1, t2]) rfl ⟨_, _, rfl, HO.out, HF.out⟩
end Go.Proofs.YthnpoeobieninaaDoor
