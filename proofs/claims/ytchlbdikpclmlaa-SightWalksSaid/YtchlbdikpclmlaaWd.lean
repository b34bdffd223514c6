/- All that an iterator hands in, as a row: AppendSeq, Collect; Line. -/
import Derived.Test.YtchlbdikpclmlaaWc
import Derived.Test.YtchlbdikpclmlaaWr
namespace Go.Proofs.Ytchlbdikpclmlaa
open Go.RowKit Go.Shelf
attribute [local go_sem] Oper.semAt_some

def encC (x : Int × Int) : Array Value := #[.agg #[.int .i64 x.1, .int .i64 x.2]]
theorem iter_line (p : Nat) (X Y Z V : Int) (n : Nat) (w : World) (hn : n ≤ 512) (hX : plainB X Y = true) (hZ : plainB Z V = true) (hdx : -(n : Int) ≤ Z - X ∧ Z - X ≤ n) (hdy : -(n : Int) ≤ V - Y ∧ V - Y ≤ n) (hs : LineAt w p X Y Z V n) :
    IterQ p 3 63 #[.pointer (some ⟨p + 2, 0, none⟩), .pointer (some ⟨p, 0, none⟩), .pointer (some ⟨p + 1, 0, none⟩)] encC (lineF X Y Z V n) w :=
  fun l J Jx W hW hJ _ hY h0 => line1_in l p X Y Z V n hn hX hZ hdx hdy J Jx W hJ hY (hs.below hW) h0

set_option maxRecDepth 100000 in
set_option maxHeartbeats 4000000 in
theorem appendSeq_any (p c gf : Nat) (lb : Array Value) (xs : List (Int × Int)) (hl : xs.length ≤ 100000) (w : World) (hit : ∀ W, Below w.heap.size w W → IterQ p c gf lb encC xs W) (hp : p + c ≤ w.heap.size)
    (hen : ∀ args w', (callFunc gf args).run Try.prog w' = .ok (.enter gf args) w') :
    Calls Try.prog 62 #[.slice none 0 0, .func (.func gf) #[] lb] w fun e w' => ∃ a cap, e = .returned (.slice a xs.length cap) ∧ RowC w' a xs ∧ Below p w w' := by
  obtain ⟨i0, hi, hz0, hz1, hz2⟩ := info_parts Try.infoCell
  refine (callsIn_wide (n := 11)).1 (callsIn_of_wp_marks Try.func62 rfl trivial ?_ rfl)
  simp only [Try.ntmps62, List.size_toArray, List.length_cons, List.length_nil, Nat.reduceAdd, Nat.reduceSub, Array.replicate_succ, Array.replicate_zero, List.push_toArray, List.append_toArray, List.nil_append, List.cons_append]
  gi_wp2
  obtain ⟨W0, hW0⟩ : ∃ W0, w.alloc (.cells #[.slice none 0 0] 24) = W0 := ⟨_, rfl⟩
  have hz : W0.heap.size = w.heap.size + 1 := by rw [← hW0]; simp
  have hk0 : Below w.heap.size w W0 := by rw [← hW0]; exact bl_al (bl0 _) _
  have hb0 : Boxed W0 w.heap.size 24 (.slice none 0 0) := by rw [← hW0]; exact Boxed.new w _ _
  rw [hW0]
  clear hW0
  refine range_q p c gf lb xs (hit W0 hk0) rfl (fun _ => rfl) (by omega) hen
    (RowI p w w.heap.size) (fun _ _ _ => False)
    (rowI_own (by omega) (by omega) _) (fun _ _ _ _ _ h _ _ => h) (rowI_abp hp (by omega)) (fun _ _ _ _ _ h _ _ => h)
    ⟨hk0.mono (by omega), _, hb0, World.ownsRow_nil _ _ _ _, trivial⟩
    (fun x a' W => ∃ Bx, W.cell? ⟨Bx, 0, none⟩ = some (.int .i64 x.1) ∧ W.cell? ⟨Bx, 1, none⟩ = some (.int .i64 x.2) ∧ a' = { tmps := #[.slice none 0 0, .func (.func gf) #[] lb, .pointer (some ⟨w.heap.size, 0, none⟩), undef, .slice none 0 0, .pointer (some ⟨Bx, 0, none⟩), .func (.func gf) #[] lb, .agg #[.int .i64 x.1, .int .i64 x.2], undef, undef, undef, undef, undef], defers := [] })
    ?ax ?assign ?body ?done ?stop
  case ax =>
    rintro c a' _ C D row ⟨Bx, h2, h3, h4⟩ hg' hr
    exact ⟨Bx, cell_kept h2 hg' (fun r e => (hr r e).2), cell_kept h3 hg' (fun r e => (hr r e).2), h4⟩
  case assign =>
    rintro l pre x W K hi' hK
    have hbW := bl_al (bl0 W) (.cells #[.int .i64 x.1, .int .i64 x.2] 23)
    have hK' := hK _ _ (KeepsOthers.from (KeepsOthers.alloc W (.cells #[.int .i64 x.1, .int .i64 x.2] 23)) _) (KP.of_below hbW (by have := hi'.1.size; omega)) (rowI_own (n₁ := W0.heap.size) (by omega) (by omega) _ pre W _ none hi' (grown_of_below hbW) (fun r e => by cases e)) ⟨W.heap.size, by simp [go_sem], by simp [go_sem], rfl⟩
    clear hK
    simp [encC]
    gi_wp2
    exact hK'
  case body =>
    rintro l pre x a' W hWl _ ⟨hB, v, hbx, hrow, _⟩ ⟨Bx, d0, d1, rfl⟩ hlt
    have hpl : pre.length < 100000 := by have := hlt.length_le; simp at this; omega
    have cb := hbx.cell
    have fb := hbx.frozen
    have hWz := hB.size
    gi_wp2_with (gi_at_builtin; refine wpListIn_append_own _ rfl _ _ 24 rfl w.heap.size 23 i0 (.agg #[.int .i64 0, .int .i64 0]) 2 16 Try.underlying24 hi hz0 hz1 hz2 rfl (by decide) _ _ _ rfl (hrow.alloc _) ⟨W.heap.size, 0, none⟩ 1 1 [.int .i64 x.1, .int .i64 x.2] rfl rfl ?c1 ?c2 ?c3 ?c4 ?c5 ?_)
    case c1 => exact cell_two_new _ _ _ _
    case c2 => intro u hu; simp at hu; rcases hu with rfl | rfl <;> rfl
    case c3 => unfold maxLen; omega
    case c4 => omega
    case c5 => rw [World.size_alloc]; omega
    intro v' w1 hown' hgrow _
    obtain ⟨g, cap, rfl⟩ := ownsRow_succ hown'
    obtain ⟨q1, q2, q3, q4, q5⟩ := Boxed.appended hbx (by decide) hrow (by omega) (Nat.le_refl _) hown' hgrow
    have c1 := q1.cell
    have f1 := q1.frozen
    gi_wp2
    refine ⟨q4.from _, KP.of_below' q5 hp q4.size, hB.trans (q5.mono (by omega)), _, q2, ?_, trivial⟩
    rw [flatC_snoc, List.length_append]
    exact q3
  case done =>
    rintro D W hD ⟨hB, v, hbx, hrow, _⟩ hK
    have cb := hbx.cell
    obtain ⟨a, cap, rfl, hrc⟩ := rowC_of_own (ownsRow_putObj hrow (.deferred none) hK rfl)
    gi_wp2
    refine ⟨by simp, .inl ⟨_, _, rfl, run_takeDeferred hK, ?_⟩⟩
    exact ⟨_, by simp [results, Try.results62, go_sem], a, cap, rfl, hrc, hB.grown (grownBy_putObj' W D _) (by have := hB.size; omega) (fun r e => by cases e; omega)⟩
  case stop =>
    intro D cc q W _ _ h
    exact h.elim

set_option maxHeartbeats 1000000 in
theorem collect_any (p c gf : Nat) (lb : Array Value) (xs : List (Int × Int)) (hl : xs.length ≤ 100000) (w : World) (hit : ∀ W, Below w.heap.size w W → IterQ p c gf lb encC xs W) (hp : p + c ≤ w.heap.size)
    (hen : ∀ args w', (callFunc gf args).run Try.prog w' = .ok (.enter gf args) w') :
    Calls Try.prog 35 #[.func (.func gf) #[] lb] w fun e w' => ∃ a cap, e = .returned (.slice a xs.length cap) ∧ RowC w' a xs ∧ Below p w w' := by
  go_enter Try.func35, Try.ntmps35
  go_wp2_with fail
  refine (appendSeq_any p c gf lb xs hl _ hit hp hen).mono ?_
  rintro e w1 ⟨a, cap, rfl, hr, hb⟩
  go_wp2
  go_ret
  exact ⟨_, _, rfl, hr, hb⟩

/-- How far two cells lie apart, as a number. -/
theorem far_nat (X Y Z V : Int) : ∃ n : Nat, max (apartI X Z) (apartI Y V) = n ∧ (-(n : Int) ≤ Z - X ∧ Z - X ≤ n) ∧ (-(n : Int) ≤ V - Y ∧ V - Y ≤ n) := by
  refine ⟨(max (apartI X Z) (apartI Y V)).toNat, ?_, ?_, ?_⟩ <;> unfold apartI <;> omega

set_option maxHeartbeats 1000000 in
theorem line_yes (X Y Z V : Int) (n : Nat) (w : World) (hX : plainB X Y = true) (hZ : plainB Z V = true) (hf : max (apartI X Z) (apartI Y V) = n) (hn : n ≤ 512) :
    Calls Try.prog 10 #[.agg #[.int .i64 X, .int .i64 Y], .agg #[.int .i64 Z, .int .i64 V]] w fun e w' => ∃ a cap, e = .returned (.tuple #[.slice a (lineF X Y Z V n).length cap, .int .i64 0]) ∧ RowC w' a (lineF X Y Z V n) ∧ Below w.heap.size w w' := by
  obtain ⟨n', hn', hdx, hdy⟩ := far_nat X Y Z V
  have en : n = n' := by omega
  subst en
  clear hn'
  have hA := bl0 w
  go_enter Try.func10, Try.ntmps10
  go_wp2_with fail
  refine (far_yes _ _ _ _ _ hX hZ).mono ?_
  rintro e w1 ⟨rfl, hb⟩
  have hk : Below w.heap.size w w1 := by first | exact hb | exact bl_tr (bl_al (bl0 _) _) hb | exact bl_tr (bl_dr (bl_al (bl0 _) _)) hb | exact bl_tr (bl_al (bl_al (bl0 _) _) _) hb | exact bl_tr (bl_dr (bl_al (bl_al (bl0 _) _) _)) hb | exact bl_tr (bl_al (bl_al (bl_al (bl0 _) _) _) _) hb | exact bl_tr (bl_dr (bl_al (bl_al (bl_al (bl0 _) _) _) _)) hb | exact bl_tr (bl_al (bl_al (bl_al (bl_al (bl0 _) _) _) _) _) hb | exact bl_tr (bl_dr (bl_al (bl_al (bl_al (bl_al (bl0 _) _) _) _) _)) hb | exact bl_tr (bl_al (bl_al (bl_al (bl_al (bl_al (bl0 _) _) _) _) _) _) hb | exact bl_tr (bl_dr (bl_al (bl_al (bl_al (bl_al (bl_al (bl0 _) _) _) _) _) _)) hb | exact bl_tr (bl_al (bl_al (bl_al (bl_al (bl_al (bl_al (bl0 _) _) _) _) _) _) _) hb | exact bl_tr (bl_dr (bl_al (bl_al (bl_al (bl_al (bl_al (bl_al (bl0 _) _) _) _) _) _) _)) hb | exact bl_tr (bl_dr (bl0 _)) hb
  replace hA := bl_tr hA hk
  have a0 := cell_later hb (v := .int .i64 X) (a := ⟨w.heap.size, 0, none⟩) (by simp [go_sem])
  have a1 := cell_later hb (v := .int .i64 Y) (a := ⟨w.heap.size, 1, none⟩) (by simp [go_sem])
  have b0 := cell_later hb (v := .int .i64 Z) (a := ⟨w.heap.size + 1, 0, none⟩) (by simp [go_sem])
  have b1 := cell_later hb (v := .int .i64 V) (a := ⟨w.heap.size + 1, 1, none⟩) (by simp [go_sem])
  clear hb hk
  have za0 := blk_lt a0
  have za1 := blk_lt a1
  have zb0 := blk_lt b0
  have zb1 := blk_lt b1
  rw [hf]
  go_wp2_with fail
  refine (line_mk _ _ _ _ _ _).mono ?_
  rintro e w2 ⟨rfl, hL, hz, hb⟩
  have hA2 := bl_tr hA hb
  go_wp2_with fail
  refine (collect_any w1.heap.size 3 63 _ (lineF X Y Z V n) (by rw [lineF_len]; omega) _ (fun W hW => iter_line w1.heap.size X Y Z V n W hn hX hZ hdx hdy (hL.below hW)) (by omega) (enters_of Try.func63 (by kernel_rfl) rfl)).mono ?_
  rintro e w3 ⟨a, cap, rfl, hr, hb3⟩
  go_wp2
  go_ret2
  exact ⟨_, _, rfl, hr, hA2.trans (hb3.mono hA.size)⟩

set_option maxHeartbeats 1000000 in
theorem line_long (X Y Z V : Int) (w : World) (hX : plainB X Y = true) (hZ : plainB Z V = true) (hf : 512 < max (apartI X Z) (apartI Y V)) :
    Calls Try.prog 10 #[.agg #[.int .i64 X, .int .i64 Y], .agg #[.int .i64 Z, .int .i64 V]] w fun e w' => e = .returned (.tuple #[.slice none 0 0, .int .i64 12]) ∧ Below w.heap.size w w' := by
  have hA := bl0 w
  go_enter Try.func10, Try.ntmps10
  go_wp2_with fail
  refine (far_yes _ _ _ _ _ hX hZ).mono ?_
  rintro e w1 ⟨rfl, hb⟩
  have hk : Below w.heap.size w w1 := by first | exact hb | exact bl_tr (bl_al (bl0 _) _) hb | exact bl_tr (bl_dr (bl_al (bl0 _) _)) hb | exact bl_tr (bl_al (bl_al (bl0 _) _) _) hb | exact bl_tr (bl_dr (bl_al (bl_al (bl0 _) _) _)) hb | exact bl_tr (bl_al (bl_al (bl_al (bl0 _) _) _) _) hb | exact bl_tr (bl_dr (bl_al (bl_al (bl_al (bl0 _) _) _) _)) hb | exact bl_tr (bl_al (bl_al (bl_al (bl_al (bl0 _) _) _) _) _) hb | exact bl_tr (bl_dr (bl_al (bl_al (bl_al (bl_al (bl0 _) _) _) _) _)) hb | exact bl_tr (bl_al (bl_al (bl_al (bl_al (bl_al (bl0 _) _) _) _) _) _) hb | exact bl_tr (bl_dr (bl_al (bl_al (bl_al (bl_al (bl_al (bl0 _) _) _) _) _) _)) hb | exact bl_tr (bl_al (bl_al (bl_al (bl_al (bl_al (bl_al (bl0 _) _) _) _) _) _) _) hb | exact bl_tr (bl_dr (bl_al (bl_al (bl_al (bl_al (bl_al (bl_al (bl0 _) _) _) _) _) _) _)) hb | exact bl_tr (bl_dr (bl0 _)) hb
  replace hA := bl_tr hA hk
  clear hb hk
  generalize max (apartI X Z) (apartI Y V) = m at *
  go_wp2
  go_ret2
  exact ⟨rfl, hA⟩
set_option maxHeartbeats 1000000 in
theorem line_no (X Y Z V : Int) (w : World) (hp : (plainB X Y && plainB Z V) = false) :
    Calls Try.prog 10 #[.agg #[.int .i64 X, .int .i64 Y], .agg #[.int .i64 Z, .int .i64 V]] w fun e w' => e = .returned (.tuple #[.slice none 0 0, .int .i64 10]) ∧ Below w.heap.size w w' := by
  have hA := bl0 w
  go_enter Try.func10, Try.ntmps10
  go_wp2_with fail
  refine (far_no _ _ _ _ _ hp).mono ?_
  rintro e w1 ⟨rfl, hb⟩
  have hk : Below w.heap.size w w1 := by first | exact hb | exact bl_tr (bl_al (bl0 _) _) hb | exact bl_tr (bl_dr (bl_al (bl0 _) _)) hb | exact bl_tr (bl_al (bl_al (bl0 _) _) _) hb | exact bl_tr (bl_dr (bl_al (bl_al (bl0 _) _) _)) hb | exact bl_tr (bl_al (bl_al (bl_al (bl0 _) _) _) _) hb | exact bl_tr (bl_dr (bl_al (bl_al (bl_al (bl0 _) _) _) _)) hb | exact bl_tr (bl_al (bl_al (bl_al (bl_al (bl0 _) _) _) _) _) hb | exact bl_tr (bl_dr (bl_al (bl_al (bl_al (bl_al (bl0 _) _) _) _) _)) hb | exact bl_tr (bl_al (bl_al (bl_al (bl_al (bl_al (bl0 _) _) _) _) _) _) hb | exact bl_tr (bl_dr (bl_al (bl_al (bl_al (bl_al (bl_al (bl0 _) _) _) _) _) _)) hb | exact bl_tr (bl_al (bl_al (bl_al (bl_al (bl_al (bl_al (bl0 _) _) _) _) _) _) _) hb | exact bl_tr (bl_dr (bl_al (bl_al (bl_al (bl_al (bl_al (bl_al (bl0 _) _) _) _) _) _) _)) hb | exact bl_tr (bl_dr (bl0 _)) hb
  replace hA := bl_tr hA hk
  clear hb hk
  go_wp2
  go_ret2
  exact ⟨rfl, hA⟩
end Go.Proofs.Ytchlbdikpclmlaa
