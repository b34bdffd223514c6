/- Paths: the program's Cost. -/
import Derived.Test.YtldpajfendkhbaaDoorAe
namespace Go.Proofs.YtldpajfendkhbaaDoor
open Go.RowKit Go.Shelf
attribute [local go_sem] Oper.semAt_some

theorem firstE_pos {A B : Int} {zs : List Int} {l : List IC} (h : firstE (pathAt A B zs l) l.length = 0) {k : Nat} (hk : k + 1 < l.length) : errP A B zs (cK l k) (cK l (k + 1)) = 0 := firstE_zero.1 h (k + 1) hk
theorem errP_val {A B : Int} {zs : List Int} {p c : IC} (h : errP A B zs p c = 0) : errC A B zs c = 0 ∧ valC A B zs c = costAt A zs c := by
  have h1 := errP_on h
  have h2 : errC A B zs c = 0 := by
    unfold errP at h
    rw [if_pos h1] at h
    unfold errC
    rw [if_pos h1]
    split at h
    · cases h
    · exact h
  exact ⟨h2, by unfold valC; rw [if_pos h2]⟩
theorem costAt_in {A : Int} {zs : List Int} (hin : AllH zs) (c : IC) : 0 ≤ costAt A zs c ∧ costAt A zs c ≤ 65535 := by
  unfold costAt
  rw [List.getD_eq_getElem?_getD]
  cases h : zs[(c.2 * A + c.1).toNat]? with
  | none => simp
  | some z => exact hin z (List.mem_of_getElem? h)
theorem costS_in {A : Int} {zs : List Int} (hin : AllH zs) (l : List IC) : 0 ≤ costS A zs l ∧ costS A zs l ≤ 65535 * (l.length : Int) := by
  induction l with
  | nil => simp [costS]
  | cons c l ih =>
    have h1 := costAt_in (A := A) hin c
    have e : costS A zs (c :: l) = costAt A zs c + costS A zs l := by simp [costS]
    rw [e, List.length_cons]
    omega
theorem costS_snoc (A : Int) (zs : List Int) (l : List IC) (c : IC) : costS A zs (l ++ [c]) = costS A zs l + costAt A zs c := by simp [costS]
theorem pairsF_snd (l : List IC) : (pairsF l).map Prod.snd = l.tail := by
  unfold pairsF
  rw [List.map_snd_zip]
  rw [List.length_tail]
  omega
/-- What Cost tells. -/
def costP (A B : Int) (zs : List Int) (l : List IC) : Int := if pathE A B zs l (chkF A B zs.length) = 0 then costS A zs l.tail else 0

set_option maxRecDepth 100000 in
set_option maxHeartbeats 4000000 in
theorem cost_path (A B : Int) (a b : Option Addr) (cap cap2 : Nat) (zs : List Int) (l : List IC) (w : World) (hr : RowH w a zs) (hin : AllH zs) (hrc : RowC w b l) (hs : Stp w) (hl : l.length ≤ 1048576) :
    Calls Tryd.prog 17 #[.agg #[.int .i64 A, .int .i64 B, .slice a zs.length cap], .slice b l.length cap2] w fun e w' => e = .returned (.tuple #[.int .u64 (costP A B zs l), .int .i64 (pathE A B zs l (chkF A B zs.length))]) ∧ Below w.heap.size w w' := by
  have hA := bl0 w
  have hchk := fun W (h1 : RowH W a zs) (h2 : RowC W b l) (h3 : Stp W) => check_path A B a b cap cap2 zs l W h1 h2 h3 hl
  by_cases hp : pathE A B zs l (chkF A B zs.length) = 0
  case neg =>
    have hcp : costP A B zs l = 0 := by unfold costP; rw [if_neg hp]
    have h1 : (pathE A B zs l (chkF A B zs.length) != 0) = true := by rw [bne_iff_ne]; exact hp
    rw [hcp]
    clear hcp hp
    generalize pathE A B zs l (chkF A B zs.length) = e at *
    have HCK := Lib.hid hchk
    clear hchk
    go_enter Tryd.func17, Tryd.ntmps17
    go_wp2_with fail
    refine (HCK.out _ (hr.below (bl_al (bl0 w) _)) (hrc.below (bl_al (bl0 w) _)) (hs.below (bl_al (bl0 w) _))).mono ?_
    rintro e w1 ⟨rfl, hb⟩
    have hk : Below w.heap.size w w1 := by first | exact hb | exact bl_tr (bl_al (bl0 _) _) hb | exact bl_tr (bl_dr (bl_al (bl0 _) _)) hb | exact bl_tr (bl_al (bl_al (bl0 _) _) _) hb | exact bl_tr (bl_dr (bl_al (bl_al (bl0 _) _) _)) hb | exact bl_tr (bl_al (bl_al (bl_al (bl0 _) _) _) _) hb | exact bl_tr (bl_dr (bl_al (bl_al (bl_al (bl0 _) _) _) _)) hb | exact bl_tr (bl_al (bl_al (bl_al (bl_al (bl0 _) _) _) _) _) hb | exact bl_tr (bl_dr (bl_al (bl_al (bl_al (bl_al (bl0 _) _) _) _) _)) hb | exact bl_tr (bl_al (bl_al (bl_al (bl_al (bl_al (bl0 _) _) _) _) _) _) hb | exact bl_tr (bl_dr (bl_al (bl_al (bl_al (bl_al (bl_al (bl0 _) _) _) _) _) _)) hb | exact bl_tr (bl_al (bl_al (bl_al (bl_al (bl_al (bl_al (bl0 _) _) _) _) _) _) _) hb | exact bl_tr (bl_dr (bl_al (bl_al (bl_al (bl_al (bl_al (bl_al (bl0 _) _) _) _) _) _) _)) hb | exact bl_tr (bl_dr (bl0 _)) hb
    replace hA := bl_tr hA hk
    clear hb hk
    go_wp2
    go_ret2
    exact ⟨rfl, hA⟩
  case pos =>
    have hcp : costP A B zs l = costS A zs l.tail := by unfold costP; rw [if_pos hp]
    have hok : chkF A B zs.length = 0 ∧ firstE (pathAt A B zs l) l.length = 0 := by
      unfold pathE at hp
      split at hp
      · rename_i h; exact absurd hp h
      · rename_i h
        split at hp
        · cases hp
        · exact ⟨by simpa using h, hp⟩
    rw [hcp, hp]
    rw [hp] at hchk
    have HCK := Lib.hid hchk
    have hzn := chk_area hok.1
    have HOK := Lib.hid hok.2
    clear hchk hcp hp hok
    refine (callsIn_wide (n := 11)).1 (callsIn_of_wp_marks Tryd.func17 rfl trivial ?_ rfl)
    simp only [Tryd.ntmps17, List.size_toArray, List.length_cons, List.length_nil, Nat.reduceAdd, Nat.reduceSub, Array.replicate_succ, Array.replicate_zero, List.push_toArray, List.append_toArray, List.nil_append, List.cons_append]
    refine wpIn_wide.2 ?_
    go_wp2_with fail
    refine (HCK.out _ (hr.below (bl_al (bl0 w) _)) (hrc.below (bl_al (bl0 w) _)) (hs.below (bl_al (bl0 w) _))).mono ?_
    rintro e w1 ⟨rfl, hb⟩
    have hk : Below w.heap.size w w1 := by first | exact hb | exact bl_tr (bl_al (bl0 _) _) hb | exact bl_tr (bl_dr (bl_al (bl0 _) _)) hb | exact bl_tr (bl_al (bl_al (bl0 _) _) _) hb | exact bl_tr (bl_dr (bl_al (bl_al (bl0 _) _) _)) hb | exact bl_tr (bl_al (bl_al (bl_al (bl0 _) _) _) _) hb | exact bl_tr (bl_dr (bl_al (bl_al (bl_al (bl0 _) _) _) _)) hb | exact bl_tr (bl_al (bl_al (bl_al (bl_al (bl0 _) _) _) _) _) hb | exact bl_tr (bl_dr (bl_al (bl_al (bl_al (bl_al (bl0 _) _) _) _) _)) hb | exact bl_tr (bl_al (bl_al (bl_al (bl_al (bl_al (bl0 _) _) _) _) _) _) hb | exact bl_tr (bl_dr (bl_al (bl_al (bl_al (bl_al (bl_al (bl0 _) _) _) _) _) _)) hb | exact bl_tr (bl_al (bl_al (bl_al (bl_al (bl_al (bl_al (bl0 _) _) _) _) _) _) _) hb | exact bl_tr (bl_dr (bl_al (bl_al (bl_al (bl_al (bl_al (bl_al (bl0 _) _) _) _) _) _) _)) hb | exact bl_tr (bl_dr (bl0 _)) hb
    replace hA := bl_tr hA hk
    have f0 := cell_later hb (v := .int .i64 A) (a := ⟨w.heap.size, 0, none⟩) (by simp [go_sem])
    have f1 := cell_later hb (v := .int .i64 B) (a := ⟨w.heap.size, 1, none⟩) (by simp [go_sem])
    have f2 := cell_later hb (v := .slice a zs.length cap) (a := ⟨w.heap.size, 2, none⟩) (by simp [go_sem])
    clear hb hk
    have zf0 := blk_lt f0
    have zf1 := blk_lt f1
    have zf2 := blk_lt f2
    obtain ⟨wc, hwc⟩ : ∃ wc, w1.alloc (.cells #[.int .u64 0] 34) = wc := ⟨_, rfl⟩
    have hbx : Boxed wc w1.heap.size 34 (.int .u64 0) := by rw [← hwc]; exact Boxed.new w1 _ _
    have hb6 : Below w1.heap.size w1 wc := by rw [← hwc]; exact bl_al (bl0 _) _
    have hzc : wc.heap.size = w1.heap.size + 1 := by rw [← hwc]; simp
    have HW := Lib.hid hwc
    clear hwc
    go_wp2_with fail
    rw [HW.out]
    refine (pairs_mk _ _ _ _).mono ?_
    rintro e W4 ⟨rfl, hP, hz4, hb4⟩
    go_wp2_with fail
    rw [hzc] at hP hz4
    have hJ0 : ChkI w1 34 (.int .u64 0) W4.heap.size W4 := ⟨hb6.grown (grown_of_below hb4) hb6.size (fun r e => by cases e), hbx.kept (grown_of_below hb4) (fun e => by cases e), Nat.le_refl _⟩
    have hrow : ∀ v W, ChkI w1 34 v W4.heap.size W → RowC W b l := fun v W h => hrc.below ((hA.trans (h.1.mono hA.size)))
    clear hbx hb4 hb6
    refine wpIn_wide.1 (range_r (w1.heap.size + 1) 1 47 #[.pointer (some ⟨w1.heap.size + 1, 0, none⟩)] (pairsF l) (fun W => RowC W b l) (iter_pairs (w1.heap.size + 1) _ cap2 l hl W4 hP) rfl (fun _ => rfl) (by omega) (enters_of Tryd.func47 (by kernel_rfl) rfl)
      (fun pre W => ChkI w1 34 (.int .u64 (costS A zs (pre.map Prod.snd))) W4.heap.size W)
      (fun _ _ _ => False)
      (fun s C D row hs hg hr => ChkI.own (β := Unit) (by omega) () C D row hs hg hr) (fun _ _ _ _ _ h _ _ => h)
      (fun s C D row hs hg hr => ChkI.abp (β := Unit) (by omega) () C D row hs hg hr) (fun _ _ _ _ _ h _ _ => h)
      (fun pre W h => hrow _ W h) (fun cc pre W h => h.elim)
      hJ0
      (fun x a' W => ∃ B2, W4.heap.size ≤ B2 ∧ W.cell? ⟨B2, 0, none⟩ = some (.int .i64 x.2.1) ∧ W.cell? ⟨B2, 1, none⟩ = some (.int .i64 x.2.2) ∧ a' = { tmps := #[.agg #[.int .i64 A, .int .i64 B, .slice a zs.length cap], .slice b l.length cap2, .pointer (some ⟨w.heap.size, 0, none⟩), undef, .int .u64 0, .int .i64 0, .int .i64 0, .pointer (some ⟨w1.heap.size, 0, none⟩), undef, .pointer (some ⟨B2, 0, none⟩), undef, undef, .agg #[.int .i64 A, .int .i64 B, .slice a zs.length cap], .slice b l.length cap2, .int .i64 0, .int .i64 0, .bool false, undef, .slice b l.length cap2, .func (.func 47) #[] #[.pointer (some ⟨w1.heap.size + 1, 0, none⟩)], .agg #[.int .i64 x.1.1, .int .i64 x.1.2], .agg #[.int .i64 x.2.1, .int .i64 x.2.2], undef, undef, undef, undef, undef, undef, undef, undef, undef, undef, undef], defers := [] })
      ?ax ?assign ?body ?done ?stop)
    case ax =>
      rintro c a' _ C D row ⟨By, h2, h5, h6, h7⟩ hg' hr
      exact ⟨By, h2, cell_kept h5 hg' (fun r e => (hr r e).2), cell_kept h6 hg' (fun r e => (hr r e).2), h7⟩
    case assign =>
      rintro lp pre x W K hi' hK
      have hWz := hi'.2.2
      have hbW := bl_al (bl0 W) (.cells #[.int .i64 x.2.1, .int .i64 x.2.2] 28)
      have hK' := hK _ _ ((Gr.below (q := 0) hbW).keeps (by omega)) (KP.of_below hbW (by omega)) (ChkI.own (β := Unit) (n₁ := W4.heap.size) (by omega) () W _ none hi' (grown_of_below hbW) (fun r e => by cases e)) ⟨W.heap.size, hWz, by simp [go_sem], by simp [go_sem], rfl⟩
      clear hK
      simp [encPP]
      gi_wp2
      exact hK'
    case body =>
      rintro lp pre x a' W hWl _ hJ ⟨B2, h2, y0, y1, rfl⟩ hlt
      obtain ⟨hk, rfl, hpre⟩ := pairsF_next hlt
      obtain ⟨he, hv⟩ := errP_val (firstE_pos HOK.out hk)
      have hcb := costAt_in (A := A) hin (cK l (pre.length + 1))
      have hsb := costS_in (A := A) hin (pre.map Prod.snd)
      rw [List.length_map] at hsb
      have hsn : costS A zs ((pre ++ [(cK l pre.length, cK l (pre.length + 1))]).map Prod.snd) = costS A zs (pre.map Prod.snd) + costAt A zs (cK l (pre.length + 1)) := by rw [List.map_append]; exact costS_snoc _ _ _ _
      have hkl : (pre.length : Int) ≤ 1048576 := by omega
      dsimp only at y0 y1
      generalize cK l pre.length = p at *
      generalize cK l (pre.length + 1) = c at *
      generalize costAt A zs c = cv at *
      generalize costS A zs (pre.map Prod.snd) = S at *
      have e1 : IntKind.u64.wrap cv = cv := by rw [IntKind.wrap_u64]; omega
      have e2 : IntKind.u64.wrap (S + cv) = S + cv := by rw [IntKind.wrap_u64]; omega
      have HSN := Lib.hid hsn
      have hr1 : RowH W a zs := hr.below (hA.trans (hJ.1.mono hA.size))
      have g0 := cell_later hJ.1 f0
      have g1 := cell_later hJ.1 f1
      have g2 := cell_later hJ.1 f2
      have hWz := hJ.2.2
      clear f0 f1 f2 hP hJ0 hsn hcb hsb hkl hpre hlt hk
      have hcall := fun W2 h2 => rcost_any A B a cap zs c W2 h2 hzn
      rw [he, hv] at hcall
      have HCALL := Lib.hid hcall
      clear hcall he hv
      gi_wp2_with fail
      refine ⟨trivial, (CallsIn.inRound lp (callsIn_wide.2 (HCALL.out _ hr1))).mono ?_⟩
      rintro e W2 ⟨rfl, hb2⟩
      have hz2 := hb2.size
      have hbx2 := hJ.2.1.kept (grown_of_below hb2) (fun e => by cases e)
      have hg := (Gr.below (q := w1.heap.size) hb2).trans (Gr.set W2 w1.heap.size 0 (.int .u64 (S + cv)))
      have hend : KeepsFrom W4.heap.size W (W2.setCell ⟨w1.heap.size, 0, none⟩ (.int .u64 (S + cv))) ∧ KP (w1.heap.size + 1) 1 W (W2.setCell ⟨w1.heap.size, 0, none⟩ (.int .u64 (S + cv))) ∧ ChkI w1 34 (.int .u64 (S + cv)) W4.heap.size (W2.setCell ⟨w1.heap.size, 0, none⟩ (.int .u64 (S + cv))) :=
        ⟨hg.keeps (by omega), hg.kp (by omega) (.inl (by omega)), Gr.base hJ.1 hg (Nat.le_refl _) hJ.1.size, hbx2.set _, by simp; omega⟩
      have HEND := Lib.hid hend
      have cb := hbx2.cell
      have fb := hbx2.frozen
      have lb2 := hbx2.lt
      clear hend hbx2 hJ hb2 hr1 g0 g1 g2 hWz hz2 hg
      gi_wp2
      exact ⟨HEND.out.1, HEND.out.2.1, by dsimp only; rw [HSN.out]; exact HEND.out.2.2⟩
    case done =>
      rintro D W hD hJ hK
      rw [pairsF_snd] at hJ
      have cb := hJ.2.1.cell
      have hfin : Below w.heap.size w (W.putObj D (.deferred none)) := hA.trans ((hJ.1.grown (grownBy_putObj' W D _) hJ.1.size (fun r e => by cases e; omega)).mono hA.size)
      clear hJ
      go_wp2
      refine ⟨by simp, .inl ⟨_, _, rfl, run_takeDeferred hK, ?_⟩⟩
      exact ⟨.tuple #[.int .u64 (costS A zs l.tail), .int .i64 0], by simp [results, Tryd.results17, go_sem], rfl, hfin⟩
    case stop =>
      intro D cc q W _ _ h
      exact h.elim
end Go.Proofs.YtldpajfendkhbaaDoor
