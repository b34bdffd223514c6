/- GridLast: for every two fields and every edit the law answers true; the arguments read as they did. Conditions: the listed variables of Go's library read as the program's text lays them (the card ties that). -/
import Derived.Test.YthnpoeobieninaaDoorLlastb
import Derived.Test.YthnpoeobieninaaDoorVp
namespace Go.Proofs.YthnpoeobieninaaDoor
open Go.ChangeShapes Go.WideShapes Go.ChangeAt Go.RowKit Go.Joins

theorem errT_ok {X Y n U V m : Int} (h : errT X Y n U V m = 0) : chkF X Y n = 0 ∧ chkF U V m = 0 ∧ X = U ∧ Y = V := by
  unfold errT at h
  by_cases h1 : chkF X Y n = 0
  · by_cases h2 : chkF U V m = 0
    · by_cases h3 : X = U ∧ Y = V
      · exact ⟨h1, h2, h3⟩
      · rw [if_neg (fun e => e h1), if_neg (fun e => e h2), if_neg h3] at h
        cases h
    · rw [if_neg (fun e => e h1), if_pos h2] at h
      exact absurd h h2
  · rw [if_pos h1] at h
    exact absurd h h1

theorem last_walk (X Y U V x y n : Int) (a b : Option Addr) (c d : Nat) (xs ys : List Int) (w : World) (hr : RowH w a xs) (hr2 : RowH w b ys) (hin : AllH xs) (hin2 : AllH ys) (hS : Sits w) :
    Calls Tryd.prog 7 #[.agg #[.int .i64 X, .int .i64 Y, .slice a xs.length c], .agg #[.int .i64 U, .int .i64 V, .slice b ys.length d], .agg #[.int .i64 x, .int .i64 y, .int .i64 n]] w fun e w' => e = .returned (.bool true) ∧ Below w.heap.size w w' := by
  cases h1 : smallB X Y xs.length with
  | false => exact last_small X Y U V x y n a b _ _ c d w hS (.inl h1)
  | true =>
    cases h2 : smallB U V ys.length with
    | false => exact last_small X Y U V x y n a b _ _ c d w hS (.inr ⟨h1, h2⟩)
    | true =>
      by_cases he : errT X Y xs.length U V ys.length = 0
      · obtain ⟨hx, hy, hu, hv⟩ := errT_ok he
        subst hu hv
        exact last_yes X Y x y n a b c d xs ys w hr hr2 hin hin2 hS h1 h2 hx hy
      · exact last_no X Y U V x y n a b _ _ c d w hS h1 h2 he

set_option maxRecDepth 100000 in
theorem last_lifted (os : Os) (started : os.Started) (H : Type) (enc : TypeId × Value → H) :
    ReturnsInHanded {} Tryd.checked os 7 .any (fun w args => (Rows.gridLastSpec.pre enc Tryd.prog Tryd.f7 [] false w args ∧ laidMetH Tryd.prog laidL w) ∧ sizedMet enc Tryd.prog Tryd.f7 (OpenSpec.ofChange Rows.gridLastSpec) false w args)
      (Rows.gridLastSpec.post enc Tryd.prog Tryd.f7 false true false false) := by
  refine returnsInHanded_of_change_and (C := Tryd.checked) (X := fun w _ => laidMetH Tryd.prog laidL w) (fun _ _ _ hh h => h.of_heap hh) Tryd.own started (by kernel_rfl) Tryd.func7
    (ChangeSpec.witness_shaped (enc := enc) (C := Tryd.checked) (os := os) (X := fun w _ => laidMetH Tryd.prog laidL w) false (World.laidAll Tryd.prog os laidL) #[.agg #[.int .i64 0, .int .i64 0, .slice none 0 0], .agg #[.int .i64 0, .int .i64 0, .slice none 0 0], .agg #[.int .i64 0, .int .i64 0, .int .i64 0]] 8 (World.laidAll_os _ _ _) (World.shaped_of_ZipB (by kernel_rfl) (by kernel_rfl)) (by kernel_rfl) (by kernel_rfl) (by kernel_rfl) (by rw [MakeChecks.laidMetH_plain _ _ _ (by kernel_rfl)]; exact laidMet_laidAll _ (by kernel_rfl) (by kernel_rfl))) ?_
  intro W base args ds gs before hval0 hW _ _ hL _
  have hval : ∀ (j : Nat) t v, Tryd.f7.params[j]? = some t → args[j]? = some v → Value.okWide Tryd.prog W .any base t v := hval0
  have hW' := hW
  obtain ⟨p, q, hA0, hV, rfl, hfz, hnd⟩ := hW
  have hA : DataW.TrodAll enc Tryd.prog W 0 (fun _ => true) true Tryd.f7.params.toList args.toList ds p := hA0
  rw [Tryd.params7] at hA hval
  obtain ⟨v0, vs0, d0, ds0, p0, q0, hargs, rfl, rfl, h0, r0⟩ := trodAll_cons hA
  obtain ⟨v1, vs1, d1, ds1, p1, q1, rfl, rfl, rfl, h1, r1⟩ := trodAll_cons r0
  obtain ⟨v2, vs2, d2, ds2, p2, q2, rfl, rfl, rfl, h2, r2⟩ := trodAll_cons r1
  obtain ⟨rfl, rfl, rfl⟩ := trodAll_nil r2
  obtain rfl : args = #[v0, v1, v2] := by cases args; simp_all
  obtain ⟨rfl, rfl⟩ := trodVars_none hV
  have k0 := h0
  have lt0 : ∀ x ∈ p0, x.block < W.heap.size := by obtain ⟨m, hm⟩ := k0; exact DataW.trod_lt m _ _ _ hm
  obtain ⟨x0, y0, a0, c0, zs0, rfl, lm0, hr0, hu0⟩ := open_field (hval 0 26 v0 rfl rfl) h0
  have k1 := h1
  have lt1 : ∀ x ∈ p1, x.block < W.heap.size := by obtain ⟨m, hm⟩ := k1; exact DataW.trod_lt m _ _ _ hm
  obtain ⟨x1, y1, a1, c1, zs1, rfl, lm1, hr1, hu1⟩ := open_field (hval 1 26 v1 rfl rfl) h1
  have k2 := h2
  have lt2 : ∀ x ∈ p2, x.block < W.heap.size := by obtain ⟨m, hm⟩ := k2; exact DataW.trod_lt m _ _ _ hm
  obtain ⟨x2, y2, n2, rfl⟩ := open_edit (hval 2 42 v2 rfl rfl) h2
  have hS := sits_of_laid hL
  clear hA0 hval0
  refine (last_walk x0 y0 x1 y1 x2 y2 n2 a0 a1 c0 c1 zs0 zs1 W hr0 hr1 hu0 hu1 hS).mono fun e W' ⟨he, bel⟩ => ?_
  subst he
  exact ⟨_, rfl, _, _, _, [], _, [], hW', trodAll_mk1 (shut_bool Tryd.underlying4 _), (trodAll_cons_mk (Below.trod Tryd.laidOut (by kernel_rfl) (of_decide_eq_true (by kernel_rfl)) k0 bel lt0) (trodAll_cons_mk (Below.trod Tryd.laidOut (by kernel_rfl) (of_decide_eq_true (by kernel_rfl)) k1 bel lt1) (trodAll_cons_mk (Below.trod Tryd.laidOut (by kernel_rfl) (of_decide_eq_true (by kernel_rfl)) k2 bel lt2) trodAll_mk0))), rfl, bel.frame _, fun h => by cases h⟩

theorem last_row : Rows.GridLastSaid :=
  OpenClaim.holds_of_wide 7 Tryd.f7 rfl rfl rfl rfl rfl rfl rfl ⟨rfl, rfl, rfl, rfl, rfl⟩ rfl rfl rfl rfl rfl (by kernel_rfl) Tryd.func7 (by kernel_rfl)
    (of_decide_eq_true (by kernel_rfl)) (by unfold Func.isWrapper; rw [if_neg (of_decide_eq_false (by kernel_rfl))]; exact ⟨rfl, rfl⟩)
    (fun os started H enc _ => last_lifted os started H enc)

/-- THE STATEMENT. -/
theorem last_card : Rows.GridLastCardSaid :=
  Claim7.holds_tied_plain_at .later [] [.data, .data, .data, .data, .sentinel, .sentinel, .pinned] true Rows.gridLastCard.stood.harness true
    last_row (fun _ h => by cases h) (by kernel_rfl) (fun _ h => by cases h) gridLast_row_tie rfl ⟨rfl, rfl⟩ (by kernel_rfl) rfl
    (fun f fn hf hfn => by
      obtain rfl : f = 7 := Option.some.inj ((show Tryd.prog.funcNamed "gloaming/gloaminglaw04.GridLast" = some 7 by kernel_rfl).symm.trans hf) |>.symm
      obtain rfl : fn = Tryd.f7 := (Option.some.inj (Tryd.func7.symm.trans hfn)).symm
      exact ⟨by kernel_rfl, fun j t ht => by
        rw [Tryd.params7] at ht
        have hm : t ∈ [26, 26, 42] := by simpa using Array.mem_of_getElem? ht
        have hall : ([26, 26, 42].all fun u => !Tryd.prog.wantsStandIn u) = true := by kernel_rfl
        exact (show Tryd.prog.wantsStandIn t = false by simpa using List.all_eq_true.1 hall t hm)⟩)
    (by kernel_rfl)
#print axioms last_card
end Go.Proofs.YthnpoeobieninaaDoor
