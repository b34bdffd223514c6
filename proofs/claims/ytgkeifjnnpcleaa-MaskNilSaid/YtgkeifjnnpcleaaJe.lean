/- The cells of a set, as a row. -/
import Derived.Test.YtgkeifjnnpcleaaJc
import Derived.Test.YtgkeifjnnpcleaaKi
import Derived.RangeFuncBox
namespace Go.Proofs.Ytgkeifjnnpcleaa
open Go.RowKit Go.Shelf
attribute [local go_sem] Oper.semAt_some

theorem append_kept {W w1 : World} {n₀ B n : Nat} {t e : TypeId} {size : Nat} {v v' : Value} {k p b h : Nat} {xs : List Value} {tmp : Obj}
    (hrow : W.ownsRow n₀ e size v k xs) (hgrow : (W.alloc tmp).grownBy w1 v.ownBlock) (hn : n + 4 ≤ n₀) (hp : p < n) (hb : b < n) (hh : h < n) (hBn : B < n) (h1 : B ≠ p) (h2 : B ≠ b) (h3 : B ≠ h) (_ : t = t) :
    KeptM p b h n 4 W (w1.setCell ⟨B, 0, none⟩ v') := by
  have hz : W.heap.size ≤ w1.heap.size := by have := hgrow.size; rw [World.size_alloc] at this; omega
  have hlow : ∀ j, v.ownBlock = some j → n₀ ≤ j := fun j e1 => (hrow.lt j e1).1
  refine ⟨by simpa using hz, fun i hi hl => ?_, fun i o hi ho hc => ?_⟩
  · refine (Below.heap_setCell _ _ _ i (show i ≠ B by rcases hi with h | h | h | h <;> omega)).trans ((hgrow.block i (by rw [World.size_alloc]; omega) (fun e1 => ?_)).trans (Below.heap_alloc _ _ _ hl))
    have := hlow i e1.symm
    omega
  · have hl := (Array.getElem?_eq_some_iff.1 ho).1
    refine ((Below.heap_setCell _ _ _ i (show i ≠ B by omega)).trans ((hgrow.block i (by rw [World.size_alloc]; omega) (fun e1 => ?_)).trans (Below.heap_alloc _ _ _ hl))).trans ho
    rcases hrow.2 with ⟨rfl, _⟩ | ⟨g, cap, cur, rfl, _, hgb, _⟩
    · simp [Value.ownBlock] at e1
    · obtain rfl : i = g := by simpa [Value.ownBlock] using e1
      rw [hgb] at ho; cases ho; cases hc

theorem eql_nilM (k : Nat) (w : World) : (binOp .eql 67 (.func (.func 49) #[] #[.pointer (some ⟨k, 0, none⟩)]) .nilFunc).run Try.prog w = .ok (.bool false) w := by
  kernel_rfl

/-- What the loop holds. -/
def RowIn (w : World) (m : Nat) (pre : List (Int × Int)) (W : World) : Prop := Below w.heap.size w W ∧ ∃ v, Boxed W m 40 v ∧ W.ownsRow (m + 6) 36 2 v pre.length (flatC pre) ∧ True
theorem rowIn_own {w : World} {n₁ : Nat} (hn : w.heap.size ≤ n₁) (m : Nat) : OwnFrom n₁ (RowIn w m) := fun s C D row hs hg hr =>
  ⟨hs.1.grown hg hs.1.size (fun r e => Nat.le_trans hn (hr r e).1), holdsRow_own (m + 6) m 40 36 2 (fun s : List (Int × Int) => s.length) flatC (fun _ _ => True) s C D row hs.2 hg (fun r e => (hr r e).2)⟩

set_option maxRecDepth 100000 in
set_option maxHeartbeats 4000000 in
theorem lcells_any (b h : Nat) (X Y : Int) (bs : List Nat) (w : World) (hm : MaskAt w b h X Y bs) (hbs : IsBytes bs) (hl : bs.length ≤ 65536) :
    Calls Try.prog 21 #[.pointer (some ⟨b, 0, none⟩)] w fun e w' => ∃ a cap zs, zs = (cellsM X Y bs).take 600 ∧ e = .returned (.slice a zs.length cap) ∧ RowC w' a zs ∧ Below w.heap.size w w' := by
  obtain ⟨i0, hi, hz0, hz1, hz2⟩ := info_parts Try.infoCell
  have hn := eql_nilM
  refine (callsIn_wide (n := 11)).1 (callsIn_of_wp_marks Try.func21 rfl trivial ?_ rfl)
  simp only [Try.ntmps21, List.size_toArray, List.length_cons, List.length_nil, Nat.reduceAdd, Nat.reduceSub, Array.replicate_succ, Array.replicate_zero, List.push_toArray, List.append_toArray, List.nil_append, List.cons_append]
  gi_wp2_with fail
  refine ⟨trivial, (mcells_in _ _ _).mono ?_⟩
  rintro e w1 ⟨rfl, rfl⟩
  gi_wp2_with fail
  obtain ⟨W0, hW0⟩ : ∃ W0, (w.alloc (.cells #[.slice none 0 0] 40)).alloc (.cells #[.pointer (some ⟨b, 0, none⟩)] 27) = W0 := ⟨_, rfl⟩
  have hz : W0.heap.size = w.heap.size + 2 := by rw [← hW0]; simp
  have hk0 : Below w.heap.size w W0 := by rw [← hW0]; exact bl_al (bl_al (bl0 _) _) _
  have hb0 : Boxed W0 w.heap.size 40 (.slice none 0 0) := by rw [← hW0]; exact (Boxed.new w _ _).alloc _
  have hs0 : SetAt W0 (w.heap.size + 1) b h X Y bs := ⟨by rw [← hW0]; simp [go_sem], hm.below hk0⟩
  obtain ⟨_, lb, lh⟩ := hs0.lt
  have lb' := hm.lt.1
  have lh' := hm.lt.2
  rw [hW0]
  clear hW0
  refine range_iter (w.heap.size + 1) b h 49 #[.pointer (some ⟨w.heap.size + 1, 0, none⟩)] (cellsM X Y bs) (iter_set _ _ _ X Y bs hbs hl W0 hs0) rfl rfl (by omega) lb lh
    (enters_of Try.func49 (by kernel_rfl) rfl)
    (fun pre W => RowIn w w.heap.size pre W ∧ pre.length < 600 ∧ W0.heap.size ≤ W.heap.size) (fun c pre W => (c = .exit 0 ∧ pre.length = 600) ∧ RowIn w w.heap.size pre W)
    (fun s C D row hs hg hr => ⟨rowIn_own (by omega) _ s C D row hs.1 hg hr, hs.2.1, Nat.le_trans hs.2.2 hg.size⟩) (fun c s C D row hs hg hr => ⟨hs.1, rowIn_own (by omega) _ s C D row hs.2 hg hr⟩)
    ⟨⟨hk0, _, hb0, World.ownsRow_nil _ _ _ _, trivial⟩, by decide, Nat.le_refl _⟩
    (fun c a' W => ∃ Bx, W0.heap.size ≤ Bx ∧ W.cell? ⟨Bx, 0, none⟩ = some (.int .i64 c.1) ∧ W.cell? ⟨Bx, 1, none⟩ = some (.int .i64 c.2) ∧ a' = { tmps := #[.pointer (some ⟨b, 0, none⟩), undef, .slice none 0 0, .pointer (some ⟨w.heap.size, 0, none⟩), .func (.func 49) #[] #[.pointer (some ⟨w.heap.size + 1, 0, none⟩)], .pointer (some ⟨Bx, 0, none⟩), .pointer (some ⟨b, 0, none⟩),
      .func (.func 49) #[] #[.pointer (some ⟨w.heap.size + 1, 0, none⟩)], .func (.func 49) #[] #[.pointer (some ⟨w.heap.size + 1, 0, none⟩)], .bool false, .func (.func 49) #[] #[.pointer (some ⟨w.heap.size + 1, 0, none⟩)], .agg #[.int .i64 c.1, .int .i64 c.2], undef, undef, undef, undef, undef, undef, undef, undef], defers := [] })
    ?ax ?assign ?body ?done ?stop
  case ax =>
    rintro c a' _ C D row ⟨Bx, h1, h2, h3, h4⟩ hg' hr
    exact ⟨Bx, h1, cell_kept h2 hg' (fun r e => (hr r e).2), cell_kept h3 hg' (fun r e => (hr r e).2), h4⟩
  case assign =>
    rintro l pre c W K ⟨hi', hlen, hWz⟩ hK
    have hbW := bl_al (bl0 W) (.cells #[.int .i64 c.1, .int .i64 c.2] 36)
    have hK' := hK _ _ (KeptM.of_below hbW) ⟨rowIn_own (Nat.le_of_lt (by omega : w.heap.size < W0.heap.size)) _ pre W _ none hi' (grown_of_below hbW) (fun r e => by cases e), hlen, Nat.le_trans hWz hbW.size⟩ ⟨W.heap.size, hWz, by simp [go_sem], by simp [go_sem], rfl⟩
    clear hK
    simp
    gi_wp2
    exact hK'
  case body =>
    rintro l pre c a' W ⟨⟨hB, v, hbx, hrow, _⟩, hlen, hWz⟩ ⟨Bx, hBx, d0, d1, rfl⟩ hsz hlt
    have cb := hbx.cell
    have fb := hbx.frozen
    gi_wp2_with (gi_at_builtin; refine wpListIn_append_own _ rfl _ _ 40 rfl (w.heap.size + 6) 36 i0 (.agg #[.int .i64 0, .int .i64 0]) 2 16 Try.underlying40 hi hz0 hz1 hz2 rfl (by decide) _ _ _ rfl (hrow.alloc _) ⟨W.heap.size, 0, none⟩ 1 1 [.int .i64 c.1, .int .i64 c.2] rfl rfl ?c1 ?c2 ?c3 ?c4 ?c5 ?_)
    case c1 => exact cell_two_new _ _ _ _
    case c2 => intro u hu; simp at hu; rcases hu with rfl | rfl <;> rfl
    case c3 => unfold maxLen; omega
    case c4 => omega
    case c5 => rw [World.size_alloc]; omega
    intro v' w1 hown' hgrow _
    have hk := append_kept (n := W0.heap.size) (v' := v') (t := 40) (B := w.heap.size) (p := w.heap.size + 1) (b := b) (h := h) hrow hgrow (by omega) (by omega) lb lh (by omega) (by omega) (by omega) (by omega) rfl
    have hb1 : Boxed w1 w.heap.size 40 v := (hbx.alloc _).kept hgrow (hbx.not_row (by decide) hrow)
    have hrow2 := hown'.kept (grownBy_setCell' w1 w.heap.size v') (.inr (hb1.not_row (by decide) hown').symm)
    have hb2 := hb1.set v'
    have hB2 : Below w.heap.size w (w1.setCell ⟨w.heap.size, 0, none⟩ v') := bl_st ((bl_al hB _).grown hgrow (by rw [World.size_alloc]; omega) (fun j hj => by have := (hrow.lt j hj).1; omega)) (by omega) _
    obtain ⟨g, cap, rfl⟩ := ownsRow_succ hown'
    have c1 := hb1.cell
    have f1 := hb1.frozen
    have c2 := hb2.cell
    rw [← flatC_snoc] at hrow2
    have hrow3 : (w1.setCell ⟨w.heap.size, 0, none⟩ (.slice (some ⟨g, 0, none⟩) (pre.length + 1) cap)).ownsRow (w.heap.size + 6) 36 2 (.slice (some ⟨g, 0, none⟩) (pre.length + 1) cap) (pre ++ [c]).length (flatC (pre ++ [c])) := by rw [List.length_append]; exact hrow2
    have hin : RowIn w w.heap.size (pre ++ [c]) (w1.setCell ⟨w.heap.size, 0, none⟩ (.slice (some ⟨g, 0, none⟩) (pre.length + 1) cap)) := ⟨hB2, _, hb2, hrow3, trivial⟩
    have hl1 : (pre.length : Int) < 600 := by omega
    have HK := Lib.hid hk
    have HI := Lib.hid hin
    clear hk hin hrow3 hrow2 hB2 hb2 hown' hgrow hB hbx hrow cb fb d0 d1 hb1
    by_cases hge : pre.length + 1 = 600
    · have hge2 : (600 : Int) ≤ (pre.length : Int) + 1 := by omega
      gi_wp2
      rw [hge] at HK HI
      exact ⟨HK.out, ⟨rfl, by rw [List.length_append]; exact hge⟩, HI.out⟩
    · have hge2 : (pre.length : Int) + 1 < 600 := by omega
      gi_wp2
      exact ⟨HK.out, HI.out, by rw [List.length_append]; show pre.length + 1 < 600; omega, Nat.le_trans hWz HK.out.1⟩
  case done =>
    rintro D W hD ⟨⟨hB, v, hbx, hrow, _⟩, hlen, _⟩ hK
    have ht : (cellsM X Y bs).take 600 = cellsM X Y bs := List.take_of_length_le (by omega)
    have cb := hbx.cell
    obtain ⟨a, cap, rfl, hrc⟩ := rowC_of_own (ownsRow_putObj hrow (.deferred none) hK rfl)
    gi_wp2
    refine ⟨by simp, .inl ⟨_, _, rfl, run_takeDeferred hK, ?_⟩⟩
    refine ⟨_, by simp [results, Try.results21, go_sem]; rfl, a, cap, _, rfl, ?_, ?_, hB.grown (grownBy_putObj' W D _) hB.size (fun r e => by cases e; omega)⟩
    · rw [ht]
    · rw [ht]; exact hrc
  case stop =>
    rintro D c q W hD hq ⟨⟨rfl, hlen⟩, hB, v, hbx, hrow, _⟩ hK
    have ht : q = (cellsM X Y bs).take 600 := by rw [← hlen]; exact List.prefix_iff_eq_take.1 hq
    have cb := hbx.cell
    obtain ⟨a, cap, rfl, hrc⟩ := rowC_of_own (ownsRow_putObj hrow (.deferred none) hK rfl)
    gi_wp2
    refine ⟨by simp, .inl ⟨_, _, rfl, run_takeDeferred hK, ?_⟩⟩
    refine ⟨_, by simp [results, Try.results21, go_sem]; rfl, a, cap, _, rfl, ?_, ?_, hB.grown (grownBy_putObj' W D _) hB.size (fun r e => by cases e; omega)⟩
    · rw [List.length_take]
    · rw [← ht]; exact hrc
end Go.Proofs.Ytgkeifjnnpcleaa
