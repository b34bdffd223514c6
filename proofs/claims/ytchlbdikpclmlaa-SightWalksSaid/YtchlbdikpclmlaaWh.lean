/- What is seen along a line: walk. -/
import Derived.Test.YtchlbdikpclmlaaWg
import Derived.Laws.MakeOwn
namespace Go.Proofs.Ytchlbdikpclmlaa
open Go.RowKit Go.Shelf
attribute [local go_sem] Oper.semAt_some

theorem in_plain {A B X Y : Int} (h : inB A B X Y = true) : plainB X Y = true := by
  obtain ⟨h1, h2, h3, h4, h5, h6, h7, h8⟩ := inB_iff.1 h
  exact plainB_iff.2 ⟨by omega, by omega, by omega, by omega⟩
theorem far_in {A B X Y Z V : Int} (h1 : inB A B X Y = true) (h2 : inB A B Z V = true) : max (apartI X Z) (apartI Y V) ≤ 255 := by
  obtain ⟨a1, a2, a3, a4, a5, a6, a7, a8⟩ := inB_iff.1 h1
  obtain ⟨b1, b2, b3, b4, b5, b6, b7, b8⟩ := inB_iff.1 h2
  unfold apartI
  omega

set_option maxRecDepth 100000 in
set_option maxHeartbeats 4000000 in
theorem walk_any (A B : Int) (a : Option Addr) (cap : Nat) (zs : List Int) (X Y Z V : Int) (n : Nat) (w : World) (hr : RowH w a zs) (h1 : inB A B X Y = true) (h2 : inB A B Z V = true) (hzn : (zs.length : Int) = A * B) (hf : max (apartI X Z) (apartI Y V) = n) :
    Calls Try.prog 41 #[.agg #[.int .i64 A, .int .i64 B, .slice a zs.length cap], .agg #[.int .i64 X, .int .i64 Y], .agg #[.int .i64 Z, .int .i64 V]] w fun e w' => ∃ b cap2, e = .returned (.slice b (seenF A zs X Y Z V n).length cap2) ∧ RowC w' b (seenF A zs X Y Z V n) ∧ Below w.heap.size w w' := by
  obtain ⟨n', hn', hdx, hdy⟩ := far_nat X Y Z V
  have en : n = n' := by omega
  subst en
  clear hn'
  have hn : n ≤ 255 := by have := far_in h1 h2; omega
  have hX := in_plain h1
  have hZ := in_plain h2
  obtain ⟨i0, hi, hz0, hz1, hz2⟩ := info_parts Try.infoCell
  have hA := bl0 w
  refine (callsIn_wide (n := 11)).1 (callsIn_of_wp_marks Try.func41 rfl trivial ?_ rfl)
  simp only [Try.ntmps41, List.size_toArray, List.length_cons, List.length_nil, Nat.reduceAdd, Nat.reduceSub, Array.replicate_succ, Array.replicate_zero, List.push_toArray, List.append_toArray, List.nil_append, List.cons_append]
  gi_wp2_with fail
  refine ⟨trivial, ?_⟩
  refine (callsIn_wide.2 (far_yes _ _ _ _ _ hX hZ)).mono ?_
  rintro e w1 ⟨rfl, hb⟩
  rw [hf]
  have a0 : w1.cell? ⟨w.heap.size, 0, none⟩ = some (.int .i64 A) := cell_later hb (by simp [go_sem])
  have a1 : w1.cell? ⟨w.heap.size, 1, none⟩ = some (.int .i64 B) := cell_later hb (by simp [go_sem])
  have a2 : w1.cell? ⟨w.heap.size, 2, none⟩ = some (.slice a zs.length cap) := cell_later hb (by simp [go_sem])
  have b0 : w1.cell? ⟨w.heap.size + 1, 0, none⟩ = some (.int .i64 X) := cell_later hb (by simp [go_sem])
  have b1 : w1.cell? ⟨w.heap.size + 1, 1, none⟩ = some (.int .i64 Y) := cell_later hb (by simp [go_sem])
  have c0 : w1.cell? ⟨w.heap.size + 1 + 1, 0, none⟩ = some (.int .i64 Z) := cell_later hb (by simp [go_sem])
  have c1 : w1.cell? ⟨w.heap.size + 1 + 1, 1, none⟩ = some (.int .i64 V) := cell_later hb (by simp [go_sem])
  replace hA := bl_tr (bl_al (bl_al (bl_al hA _) _) _) hb
  have zc := blk_lt c0
  clear hb
  gi_wp2_with (gi_at_make; refine wpListIn_make_own _ rfl _ _ 24 rfl w1.heap.size 23 i0 (.agg #[.int .i64 0, .int .i64 0]) 2 Try.underlying24 hi hz0 hz1 .i64 .i64 _ (n + 1) rfl rfl (by simp) ?b2 ?b3 ?b4 ?_)
  case b2 => rw [hz2]; omega
  case b3 => unfold maxLen; omega
  case b4 => exact Nat.le_refl _
  intro w2 hown hgrow
  have hb2 : Below w1.heap.size w1 w2 := (bl0 w1).grown hgrow (Nat.le_refl _) (fun j hj => by cases hj)
  have hg2 := (hown.lt w1.heap.size rfl).2
  have d0 := cell_later hb2 b0
  have d1 := cell_later hb2 b1
  have d2 := cell_later hb2 c0
  have d3 := cell_later hb2 c1
  have zd0 := blk_lt d0
  have zd2 := blk_lt d2
  gi_wp2_with fail
  obtain ⟨W3, hW3⟩ : ∃ W3, w2.alloc (.cells #[.slice (some ⟨w1.heap.size, 0, none⟩) 0 (n + 1)] 24) = W3 := ⟨_, rfl⟩
  have hz3 : W3.heap.size = w2.heap.size + 1 := by rw [← hW3]; simp
  have hb3 : Below w2.heap.size w2 W3 := by rw [← hW3]; exact bl_al (bl0 _) _
  have hbx : Boxed W3 w2.heap.size 24 (.slice (some ⟨w1.heap.size, 0, none⟩) 0 (n + 1)) := by rw [← hW3]; exact Boxed.new w2 _ _
  have hown3 := own_later hown hb3
  have hB3 := bl_tr hb2 hb3
  rw [hW3]
  clear hW3
  refine ⟨trivial, (callsIn_wide.2 (line_mk _ _ _ _ _ _)).mono ?_⟩
  rintro e W4 ⟨rfl, hL, hz4, hb4⟩
  have hB4 := bl_tr hB3 hb4
  have hJ0 : RowJ w1 w2.heap.size w1.heap.size (n + 1) [] W4 := ⟨hB4, hbx.kept (grown_of_below hb4) (fun e => by cases e), own_later hown3 hb4⟩
  gi_wp2_with fail
  have hL4 : LineAt W4 (w2.heap.size + 1) X Y Z V n := by rw [← hz3]; exact hL
  have hl1 : ∀ k, k ≤ n → inB A B (lineK X Y Z V n k).1 (lineK X Y Z V n k).2 = true := fun k hk => line_in h1 h2 hdx hdy hk
  refine range_q (w2.heap.size + 1) 3 63 _ (lineF X Y Z V n) (iter_line (w2.heap.size + 1) X Y Z V n W4 (by omega) hX hZ hdx hdy hL4) rfl (fun _ => rfl) (by omega) (enters_of Try.func63 (by kernel_rfl) rfl)
    (fun pre W => RowJ w1 w2.heap.size w1.heap.size (n + 1) pre W ∧ W4.heap.size ≤ W.heap.size ∧ ∀ c ∈ pre.tail, wallB A zs c = false) (fun cc pre W => RowJ w1 w2.heap.size w1.heap.size (n + 1) pre W ∧ cc = .exit 0 ∧ seenF A zs X Y Z V n = pre)
    (fun s C D row hs hg hr => ⟨rowJ_own (by omega) _ _ _ s C D row hs.1 hg hr, Nat.le_trans hs.2.1 hg.size, hs.2.2⟩) (fun cc s C D row hs hg hr => ⟨rowJ_own (by omega) _ _ _ s C D row hs.1 hg hr, hs.2⟩)
    (fun s C D row hs hg hr => ⟨rowJ_abp (by omega) (by omega) (by omega) s C D row hs.1 hg hr, Nat.le_trans hs.2.1 hg.size, hs.2.2⟩) (fun cc s C D row hs hg hr => ⟨rowJ_abp (by omega) (by omega) (by omega) s C D row hs.1 hg hr, hs.2⟩)
    ⟨hJ0, Nat.le_refl _, by simp⟩
    (fun x a' W => ∃ Bx, W4.heap.size ≤ Bx ∧ W.cell? ⟨Bx, 0, none⟩ = some (.int .i64 x.1) ∧ W.cell? ⟨Bx, 1, none⟩ = some (.int .i64 x.2) ∧ a' = { tmps := #[.agg #[.int .i64 A, .int .i64 B, .slice a zs.length cap], .agg #[.int .i64 X, .int .i64 Y], .agg #[.int .i64 Z, .int .i64 V], .pointer (some ⟨w.heap.size, 0, none⟩), .pointer (some ⟨w.heap.size + 1, 0, none⟩), .pointer (some ⟨w.heap.size + 1 + 1, 0, none⟩), .slice none 0 0, .int .i64 n, .int .i64 0, .pointer (some ⟨w2.heap.size, 0, none⟩), .pointer (some ⟨Bx, 0, none⟩), .tuple #[.int .i64 n, .int .i64 0], .agg #[.int .i64 X, .int .i64 Y], .agg #[.int .i64 Z, .int .i64 V], .tuple #[.int .i64 n, .int .i64 0], .int .i64 n, .int .i64 0, .int .i64 n, .int .i64 ((n : Int) + 1), .slice (some ⟨w1.heap.size, 0, none⟩) 0 (n + 1), .agg #[.int .i64 X, .int .i64 Y], .agg #[.int .i64 Z, .int .i64 V], .int .i64 n, .func (.func 63) #[] #[.pointer (some ⟨w2.heap.size + 1 + 2, 0, none⟩), .pointer (some ⟨w2.heap.size + 1, 0, none⟩), .pointer (some ⟨w2.heap.size + 1 + 1, 0, none⟩)], .agg #[.int .i64 x.1, .int .i64 x.2], undef, undef, undef, undef, undef, undef, undef, undef, undef, undef, undef, undef, undef], defers := [] })
    ?ax ?assign ?body ?done ?stop
  case ax =>
    rintro c a' _ C D row ⟨Bx, h1, h2, h3, h4⟩ hg' hr
    exact ⟨Bx, h1, cell_kept h2 hg' (fun r e => (hr r e).2), cell_kept h3 hg' (fun r e => (hr r e).2), h4⟩
  case assign =>
    rintro l pre x W K ⟨hi', hWz, hfr⟩ hK
    have hbW := bl_al (bl0 W) (.cells #[.int .i64 x.1, .int .i64 x.2] 23)
    have hK' := hK _ _ (keeps_below hbW) (KP.of_below hbW (by omega)) ⟨rowJ_own (n₁ := W4.heap.size) (by omega) _ _ _ pre W _ none hi' (grown_of_below hbW) (fun r e => by cases e), Nat.le_trans hWz hbW.size, hfr⟩ ⟨W.heap.size, hWz, by simp [go_sem], by simp [go_sem], rfl⟩
    clear hK
    simp [encC]
    gi_wp2
    exact hK'
  case body =>
    rintro l pre ⟨x, y⟩ a' W hWl _ ⟨hJ, hWz, hfr⟩ ⟨Bx, hBx, e0, e1, rfl⟩ hlt
    have hpl : pre.length < n + 1 := by have := hlt.length_le; rw [lineF_len] at this; simp at this; omega
    have hxk : (x, y) = lineK X Y Z V n pre.length := by
      have h1 := hlt.getElem (i := pre.length) (by simp)
      have h2 := lineF_at (X := X) (Y := Y) (Z := Z) (V := V) hpl
      have h3 := List.getElem?_eq_getElem (l := lineF X Y Z V n) (i := pre.length) (by rw [lineF_len]; exact hpl)
      rw [h2] at h3
      simp at h1
      rw [h1]
      exact (Option.some.inj h3).symm
    have hix : inB A B x y = true := by
      have h := hl1 pre.length (by omega)
      rw [← hxk] at h
      exact h
    have hWz1 := hJ.1.size
    have zBx := blk_lt e0
    have hbx := hJ.2.1
    have hrow := hJ.2.2
    have cb := hbx.cell
    have fb := hbx.frozen
    dsimp only at e0 e1
    gi_wp2_with (gi_at_builtin; refine wpListIn_append_fits _ rfl _ _ 24 rfl w1.heap.size 23 i0 2 Try.underlying24 hi hz1 w1.heap.size pre.length (n + 1) (flatC pre) rfl (hrow.alloc _) ⟨W.heap.size, 0, none⟩ 1 1 [.int .i64 x, .int .i64 y] rfl rfl ?c1 ?c2 ?c3 ?_)
    case c1 => exact cell_two_new _ _ _ _
    case c2 => intro u hu; simp at hu; rcases hu with rfl | rfl <;> rfl
    case c3 => omega
    intro w5 hown' hgrow
    obtain ⟨q1, q2, q3, q4, q5⟩ := Boxed.appended hbx (by decide) hrow (by omega) (by omega) hown' hgrow
    have c5 := q1.cell
    have f5 := q1.frozen
    have hKP : KP (w2.heap.size + 1) 3 W _ := kp_appended (u := .slice (some ⟨w1.heap.size, 0, none⟩) (pre.length + 1) (n + 1)) hgrow (m := w2.heap.size) (by omega) (by omega) (by omega)
    have hKB : KP Bx 1 W _ := kp_appended (u := .slice (some ⟨w1.heap.size, 0, none⟩) (pre.length + 1) (n + 1)) hgrow (m := w2.heap.size) (by omega) (by omega) (by omega)
    have t0 := hKB.cell (Nat.le_refl _) (by omega) e0
    have t1 := hKB.cell (Nat.le_refl _) (by omega) e1
    have hB6 := hJ.1.trans q5
    have s0 := cell_later hB6 a0
    have s1 := cell_later hB6 a1
    have s2 := cell_later hB6 a2
    have r0 := cell_later hB6 b0
    have r1 := cell_later hB6 b1
    have hrH := hr.below (hA.trans (hB6.mono hA.size))
    have hJ6 : RowJ w1 w2.heap.size w1.heap.size (n + 1) (pre ++ [(x, y)]) _ := ⟨hB6, by rw [List.length_append]; exact q2, by rw [flatC_snoc, List.length_append]; exact q3⟩
    have HJ := Lib.hid hJ6
    have HK := Lib.hid (q4.from W4.heap.size)
    have HP := Lib.hid hKP
    have HW := Lib.hid (show W4.heap.size ≤ _ from Nat.le_trans hWz hKP.1)
    clear hJ6 hKP hKB hown' hgrow q2 q3 q4 q5 hbx hrow e0 e1 cb fb hJ
    by_cases hp : pre = []
    · have hx0 : x = X ∧ y = Y := by
        have h := line_fst X Y Z V n
        rw [hp] at hxk
        rw [show lineK X Y Z V n 0 = (x, y) from hxk.symm] at h
        exact ⟨congrArg Prod.fst h, congrArg Prod.snd h⟩
      obtain ⟨rfl, rfl⟩ := hx0
      have b1 := beq_self_eq_true x
      have b2 := beq_self_eq_true y
      have HF := Lib.hid (show ∀ c ∈ (pre ++ [(x, y)]).tail, wallB A zs c = false by rw [hp]; simp)
      clear hp hxk hfr hlt
      gi_wp2_with fail
      refine ⟨trivial, ?_⟩
      gi_wp2
      exact ⟨HK.out, HP.out, HJ.out, HW.out, HF.out⟩
    · have hne : (x, y) ≠ (X, Y) := by
        rw [hxk]
        have : 1 ≤ pre.length := List.length_pos_iff.2 hp
        exact line_away hf this (by omega)
      have HS := Lib.hid (show wallB A zs (x, y) = true → seenF A zs X Y Z V n = pre ++ [(x, y)] from fun h => walk_stop hlt hp hfr h)
      have HF := Lib.hid (show wallB A zs (x, y) = false → ∀ c ∈ (pre ++ [(x, y)]).tail, wallB A zs c = false by
        intro h c hc
        rw [List.tail_append_of_ne_nil hp, List.mem_append] at hc
        rcases hc with hc | hc
        · exact hfr c hc
        · simp at hc; rw [hc]; exact h)
      clear hp hxk hfr hlt
      by_cases hx1 : x = X
      · have hy1 : (y == Y) = false := by rw [beq_eq_false_iff_ne]; exact fun e => hne (by rw [hx1, e])
        have b1 : (x == X) = true := by rw [beq_iff_eq]; exact hx1
        clear hx1 hne
        gi_wp2_with fail
        refine ⟨trivial, (CallsIn.inRound l (callsIn_wide.2 (wall_yes A B a cap zs x y _ hrH hix hzn))).mono ?_⟩
        rintro e w9 ⟨rfl, hb9⟩
        have HK9 := Lib.hid (HK.out.trans (keeps_below (n := W4.heap.size) hb9))
        have HP9 := Lib.hid (HP.out.trans (KP.of_below hb9 (by have := HW.out; omega)))
        have HJ9 := Lib.hid (rowJ_grown HJ.out (grown_of_below hb9) (fun r e => by cases e))
        have HW9 := Lib.hid (Nat.le_trans HW.out hb9.size)
        clear HK HP HJ HW hb9
        cases hw : wallB A zs (x, y)
        · have HF9 := HF.out hw
          clear hw HF HS
          gi_wp2
          exact ⟨HK9.out, HP9.out, HJ9.out, HW9.out, HF9⟩
        · have HS9 := HS.out hw
          clear hw HF HS
          gi_wp2
          exact ⟨HK9.out, HP9.out, HJ9.out, rfl, HS9⟩
      · have b1 : (x == X) = false := by rw [beq_eq_false_iff_ne]; exact hx1
        clear hx1 hne
        gi_wp2_with fail
        refine ⟨trivial, (CallsIn.inRound l (callsIn_wide.2 (wall_yes A B a cap zs x y _ hrH hix hzn))).mono ?_⟩
        rintro e w9 ⟨rfl, hb9⟩
        have HK9 := Lib.hid (HK.out.trans (keeps_below (n := W4.heap.size) hb9))
        have HP9 := Lib.hid (HP.out.trans (KP.of_below hb9 (by have := HW.out; omega)))
        have HJ9 := Lib.hid (rowJ_grown HJ.out (grown_of_below hb9) (fun r e => by cases e))
        have HW9 := Lib.hid (Nat.le_trans HW.out hb9.size)
        clear HK HP HJ HW hb9
        cases hw : wallB A zs (x, y)
        · have HF9 := HF.out hw
          clear hw HF HS
          gi_wp2
          exact ⟨HK9.out, HP9.out, HJ9.out, HW9.out, HF9⟩
        · have HS9 := HS.out hw
          clear hw HF HS
          gi_wp2
          exact ⟨HK9.out, HP9.out, HJ9.out, rfl, HS9⟩
  case done =>
    rintro D W hD ⟨hJ, _, hfr⟩ hK
    have cb := hJ.2.1.cell
    obtain ⟨a', cap', e, hrc⟩ := rowC_of_own (ownsRow_putObj hJ.2.2 (.deferred none) hK rfl)
    cases e
    have hs : seenF A zs X Y Z V n = lineF X Y Z V n := walk_free hfr
    gi_wp2
    refine ⟨by simp, .inl ⟨_, _, rfl, run_takeDeferred hK, ?_⟩⟩
    rw [hs]
    exact ⟨_, by simp [results, Try.results41, go_sem]; rfl, _, _, rfl, hrc, (hA.trans (hJ.1.mono hA.size)).grown (grownBy_putObj' W D _) (by have := hJ.1.size; have := hA.size; omega) (fun r e => by cases e; have := hA.size; omega)⟩
  case stop =>
    rintro D cc q W hD hq ⟨hJ, rfl, hs⟩ hK
    have cb := hJ.2.1.cell
    obtain ⟨a', cap', e, hrc⟩ := rowC_of_own (ownsRow_putObj hJ.2.2 (.deferred none) hK rfl)
    cases e
    gi_wp2
    refine ⟨by simp, .inl ⟨_, _, rfl, run_takeDeferred hK, ?_⟩⟩
    rw [hs]
    exact ⟨_, by simp [results, Try.results41, go_sem]; rfl, _, _, rfl, hrc, (hA.trans (hJ.1.mono hA.size)).grown (grownBy_putObj' W D _) (by have := hJ.1.size; have := hA.size; omega) (fun r e => by cases e; have := hA.size; omega)⟩
end Go.Proofs.Ytchlbdikpclmlaa
