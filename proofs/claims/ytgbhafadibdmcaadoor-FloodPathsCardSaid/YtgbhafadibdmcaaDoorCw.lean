/- Least costs by definition: the reference's Fits, May and Far, whatever the arguments. -/
import Derived.Test.YtgbhafadibdmcaaDoorCv
import Derived.Test.YtgbhafadibdmcaaDoorJ1
namespace Go.Proofs.YtgbhafadibdmcaaDoor
open Go.RowKit

set_option maxRecDepth 100000 in
set_option maxHeartbeats 4000000 in
theorem fits8_any (A B X Y U V : Int) (w : World) (hm : mayB A B = true) (h64 : (wf64 X ∧ wf64 Y) ∧ wf64 U ∧ wf64 V) :
    Calls Tryd.prog 35 #[.agg #[.int .i64 A, .int .i64 B], .agg #[.int .i64 X, .int .i64 Y, .int .i64 U, .int .i64 V]] w fun e w' => e = .returned (.bool (fitsB A B X Y U V)) ∧ Below w.heap.size w w' := by
  obtain ⟨m1, m2, m3, m4⟩ := mayB_iff.1 hm
  unfold wf64 at h64
  obtain ⟨t, ht⟩ : ∃ t, fitsB A B X Y U V = t := ⟨_, rfl⟩
  have hiff : t = true ↔ 0 ≤ X ∧ 0 ≤ Y ∧ 1 ≤ U ∧ 1 ≤ V ∧ X < A ∧ Y < B ∧ U ≤ A - X ∧ V ≤ B - Y := by
    rw [← ht, fitsB_iff]
    constructor
    · rintro ⟨_, _, h1, h2, h3, h4, h5, h6⟩
      exact ⟨by omega, by omega, by omega, by omega, by omega, by omega, by omega, by omega⟩
    · rintro ⟨h1, h2, h3, h4, h5, h6, h7, h8⟩
      exact ⟨rightB_iff.2 (by omega), hm, by omega, by omega, h1, h2, by omega, by omega⟩
  rw [ht]
  have HIFF := Lib.hid hiff
  clear ht hiff hm
  have hA := bl_al (bl_al (bl0 w) (.cells #[.int .i64 A, .int .i64 B] 23)) (.cells #[.int .i64 X, .int .i64 Y, .int .i64 U, .int .i64 V] 28)
  by_cases h0 : 0 ≤ X
  case neg =>
    have htt : t = false := by cases t; rfl; have := HIFF.out.1 rfl; omega
    subst htt
    go_enter Tryd.func35, Tryd.ntmps35
    go_wp2
    go_ret
    exact ⟨rfl, hA⟩
  case pos =>
  by_cases h1 : 0 ≤ Y
  case neg =>
    have htt : t = false := by cases t; rfl; have := HIFF.out.1 rfl; omega
    subst htt
    go_enter Tryd.func35, Tryd.ntmps35
    go_wp2
    go_ret
    exact ⟨rfl, hA⟩
  case pos =>
  by_cases h2 : 1 ≤ U
  case neg =>
    have htt : t = false := by cases t; rfl; have := HIFF.out.1 rfl; omega
    subst htt
    go_enter Tryd.func35, Tryd.ntmps35
    go_wp2
    go_ret
    exact ⟨rfl, hA⟩
  case pos =>
  by_cases h3 : 1 ≤ V
  case neg =>
    have htt : t = false := by cases t; rfl; have := HIFF.out.1 rfl; omega
    subst htt
    go_enter Tryd.func35, Tryd.ntmps35
    go_wp2
    go_ret
    exact ⟨rfl, hA⟩
  case pos =>
  by_cases h4 : X < A
  case neg =>
    have htt : t = false := by cases t; rfl; have := HIFF.out.1 rfl; omega
    subst htt
    go_enter Tryd.func35, Tryd.ntmps35
    go_wp2
    go_ret
    exact ⟨rfl, hA⟩
  case pos =>
  by_cases h5 : Y < B
  case neg =>
    have htt : t = false := by cases t; rfl; have := HIFF.out.1 rfl; omega
    subst htt
    go_enter Tryd.func35, Tryd.ntmps35
    go_wp2
    go_ret
    exact ⟨rfl, hA⟩
  case pos =>
  have hw1 : IntKind.i64.wrap (A - X) = A - X := IntWalk.i64_in _ (by omega)
  by_cases h6 : U ≤ A - X
  case neg =>
    have htt : t = false := by cases t; rfl; have := HIFF.out.1 rfl; omega
    subst htt
    go_enter Tryd.func35, Tryd.ntmps35
    go_wp2
    go_ret
    exact ⟨rfl, hA⟩
  case pos =>
  have hw2 : IntKind.i64.wrap (B - Y) = B - Y := IntWalk.i64_in _ (by omega)
  by_cases h7 : V ≤ B - Y
  case neg =>
    have htt : t = false := by cases t; rfl; have := HIFF.out.1 rfl; omega
    subst htt
    go_enter Tryd.func35, Tryd.ntmps35
    go_wp2
    go_ret
    exact ⟨rfl, hA⟩
  case pos =>
  have htt : t = true := HIFF.out.2 ⟨h0, h1, h2, h3, h4, h5, h6, h7⟩
  subst htt
  go_enter Tryd.func35, Tryd.ntmps35
  go_wp2
  go_ret
  exact ⟨rfl, hA⟩

set_option maxRecDepth 100000 in
set_option maxHeartbeats 4000000 in
theorem may8_any (A B : Int) (a : Option Addr) (n cap : Nat) (X Y U V : Int) (c : IC) (w : World) (h64 : chkF A B n = 0 → (wf64 X ∧ wf64 Y) ∧ wf64 U ∧ wf64 V) (hc : wf64 c.1 ∧ wf64 c.2) :
    Calls Tryd.prog 10 #[.agg #[.int .i64 A, .int .i64 B, .slice a n cap], .agg #[.int .i64 X, .int .i64 Y, .int .i64 U, .int .i64 V], .agg #[.int .i64 c.1, .int .i64 c.2]] w fun e w' => e = .returned (.int .i64 (errW A B n (X, Y, U, V) c)) ∧ Below w.heap.size w w' := by
  have hA := bl0 w
  have H1 := Lib.hid (fun w => rcheck_any A B a n cap w)
  obtain ⟨E, hE⟩ : ∃ E, errW A B n (X, Y, U, V) c = E := ⟨_, rfl⟩
  rw [hE]
  unfold errW at hE
  by_cases h0 : chkF A B n = 0
  · rw [if_pos h0] at hE
    obtain ⟨hm, _⟩ := chkF_may h0
    rw [h0] at H1
    have H2 := Lib.hid (fun w => fits8_any A B X Y U V w hm (h64 h0))
    by_cases hf : fitsB A B X Y U V = true
    · rw [hf] at H2
      obtain ⟨f1, f2, f3, f4, f5, f6, f7, f8⟩ := fitsB_iff.1 hf
      have H3 := Lib.hid (fun w => rhas8_any X Y U V c w f1 ⟨f5, f6⟩ hc)
      have hE2 : (if inBx (X, Y, U, V) c = true then (0 : Int) else 10) = E := by
        rw [← hE]
        by_cases hi : inBx (X, Y, U, V) c = true
        · rw [if_pos hi, if_pos ⟨hf, hi⟩]
        · rw [if_neg hi, if_neg (fun h => hi h.2)]
      obtain ⟨t, ht⟩ : ∃ t, inBx (X, Y, U, V) c = t := ⟨_, rfl⟩
      rw [ht] at hE2 H3
      clear hE h0 hm f1 f2 f3 f4 f5 f6 f7 f8 hf ht
      cases t
      all_goals
        simp at hE2
        subst hE2
        go_enter Tryd.func10, Tryd.ntmps10
        go_wp2_with fail
        refine (H1.out _).mono ?_
        rintro e w1 ⟨rfl, hb⟩
        have hk : Below w.heap.size w w1 := by first | exact hb | exact bl_tr (bl_al (bl0 _) _) hb | exact bl_tr (bl_dr (bl_al (bl0 _) _)) hb | exact bl_tr (bl_al (bl_al (bl0 _) _) _) hb | exact bl_tr (bl_dr (bl_al (bl_al (bl0 _) _) _)) hb | exact bl_tr (bl_al (bl_al (bl_al (bl0 _) _) _) _) hb | exact bl_tr (bl_dr (bl_al (bl_al (bl_al (bl0 _) _) _) _)) hb | exact bl_tr (bl_al (bl_al (bl_al (bl_al (bl0 _) _) _) _) _) hb | exact bl_tr (bl_dr (bl_al (bl_al (bl_al (bl_al (bl0 _) _) _) _) _)) hb | exact bl_tr (bl_al (bl_al (bl_al (bl_al (bl_al (bl0 _) _) _) _) _) _) hb | exact bl_tr (bl_dr (bl_al (bl_al (bl_al (bl_al (bl_al (bl0 _) _) _) _) _) _)) hb | exact bl_tr (bl_al (bl_al (bl_al (bl_al (bl_al (bl_al (bl0 _) _) _) _) _) _) _) hb | exact bl_tr (bl_dr (bl_al (bl_al (bl_al (bl_al (bl_al (bl_al (bl0 _) _) _) _) _) _) _)) hb | exact bl_tr (bl_dr (bl0 _)) hb
        replace hA := bl_tr hA hk
        have f0 := cell_later hb (v := .int .i64 A) (a := ⟨w.heap.size, 0, none⟩) (by simp [go_sem])
        have f1 := cell_later hb (v := .int .i64 B) (a := ⟨w.heap.size, 1, none⟩) (by simp [go_sem])
        have g0 := cell_later hb (v := .int .i64 X) (a := ⟨w.heap.size + 1, 0, none⟩) (by simp [go_sem])
        have g1 := cell_later hb (v := .int .i64 Y) (a := ⟨w.heap.size + 1, 1, none⟩) (by simp [go_sem])
        have g2 := cell_later hb (v := .int .i64 U) (a := ⟨w.heap.size + 1, 2, none⟩) (by simp [go_sem])
        have g3 := cell_later hb (v := .int .i64 V) (a := ⟨w.heap.size + 1, 3, none⟩) (by simp [go_sem])
        have h0 := cell_later hb (v := .int .i64 c.1) (a := ⟨w.heap.size + 1 + 1, 0, none⟩) (by simp [go_sem])
        have h1 := cell_later hb (v := .int .i64 c.2) (a := ⟨w.heap.size + 1 + 1, 1, none⟩) (by simp [go_sem])
        clear hb hk
        have zf0 := blk_lt f0
        have zf1 := blk_lt f1
        have zg0 := blk_lt g0
        have zg1 := blk_lt g1
        have zg2 := blk_lt g2
        have zg3 := blk_lt g3
        have zh0 := blk_lt h0
        have zh1 := blk_lt h1
        go_wp2_with fail
        refine (H2.out _).mono ?_
        rintro e w2 ⟨rfl, hb⟩
        have hk : Below w1.heap.size w1 w2 := by first | exact hb | exact bl_tr (bl_al (bl0 _) _) hb | exact bl_tr (bl_dr (bl_al (bl0 _) _)) hb | exact bl_tr (bl_al (bl_al (bl0 _) _) _) hb | exact bl_tr (bl_dr (bl_al (bl_al (bl0 _) _) _)) hb | exact bl_tr (bl_al (bl_al (bl_al (bl0 _) _) _) _) hb | exact bl_tr (bl_dr (bl_al (bl_al (bl_al (bl0 _) _) _) _)) hb | exact bl_tr (bl_al (bl_al (bl_al (bl_al (bl0 _) _) _) _) _) hb | exact bl_tr (bl_dr (bl_al (bl_al (bl_al (bl_al (bl0 _) _) _) _) _)) hb | exact bl_tr (bl_al (bl_al (bl_al (bl_al (bl_al (bl0 _) _) _) _) _) _) hb | exact bl_tr (bl_dr (bl_al (bl_al (bl_al (bl_al (bl_al (bl0 _) _) _) _) _) _)) hb | exact bl_tr (bl_al (bl_al (bl_al (bl_al (bl_al (bl_al (bl0 _) _) _) _) _) _) _) hb | exact bl_tr (bl_dr (bl_al (bl_al (bl_al (bl_al (bl_al (bl_al (bl0 _) _) _) _) _) _) _)) hb | exact bl_tr (bl_dr (bl0 _)) hb
        replace hA := bl_tr hA hk
        replace g0 := cell_later hk g0
        replace g1 := cell_later hk g1
        replace g2 := cell_later hk g2
        replace g3 := cell_later hk g3
        replace h0 := cell_later hk h0
        replace h1 := cell_later hk h1
        clear hb hk
        have zg0 := blk_lt g0
        have zg1 := blk_lt g1
        have zg2 := blk_lt g2
        have zg3 := blk_lt g3
        have zh0 := blk_lt h0
        have zh1 := blk_lt h1
        go_wp2_with fail
        refine (H3.out _).mono ?_
        rintro e w3 ⟨rfl, hb⟩
        have hk : Below w2.heap.size w2 w3 := by first | exact hb | exact bl_tr (bl_al (bl0 _) _) hb | exact bl_tr (bl_dr (bl_al (bl0 _) _)) hb | exact bl_tr (bl_al (bl_al (bl0 _) _) _) hb | exact bl_tr (bl_dr (bl_al (bl_al (bl0 _) _) _)) hb | exact bl_tr (bl_al (bl_al (bl_al (bl0 _) _) _) _) hb | exact bl_tr (bl_dr (bl_al (bl_al (bl_al (bl0 _) _) _) _)) hb | exact bl_tr (bl_al (bl_al (bl_al (bl_al (bl0 _) _) _) _) _) hb | exact bl_tr (bl_dr (bl_al (bl_al (bl_al (bl_al (bl0 _) _) _) _) _)) hb | exact bl_tr (bl_al (bl_al (bl_al (bl_al (bl_al (bl0 _) _) _) _) _) _) hb | exact bl_tr (bl_dr (bl_al (bl_al (bl_al (bl_al (bl_al (bl0 _) _) _) _) _) _)) hb | exact bl_tr (bl_al (bl_al (bl_al (bl_al (bl_al (bl_al (bl0 _) _) _) _) _) _) _) hb | exact bl_tr (bl_dr (bl_al (bl_al (bl_al (bl_al (bl_al (bl_al (bl0 _) _) _) _) _) _) _)) hb | exact bl_tr (bl_dr (bl0 _)) hb
        replace hA := bl_tr hA hk
        clear hb hk
        go_wp2
        go_ret
        exact ⟨rfl, hA⟩
    · have hf2 : fitsB A B X Y U V = false := by simpa using hf
      rw [hf2] at H2
      rw [if_neg (fun h => hf h.1)] at hE
      subst hE
      clear h0 hm hf hf2
      go_enter Tryd.func10, Tryd.ntmps10
      go_wp2_with fail
      refine (H1.out _).mono ?_
      rintro e w1 ⟨rfl, hb⟩
      have hk : Below w.heap.size w w1 := by first | exact hb | exact bl_tr (bl_al (bl0 _) _) hb | exact bl_tr (bl_dr (bl_al (bl0 _) _)) hb | exact bl_tr (bl_al (bl_al (bl0 _) _) _) hb | exact bl_tr (bl_dr (bl_al (bl_al (bl0 _) _) _)) hb | exact bl_tr (bl_al (bl_al (bl_al (bl0 _) _) _) _) hb | exact bl_tr (bl_dr (bl_al (bl_al (bl_al (bl0 _) _) _) _)) hb | exact bl_tr (bl_al (bl_al (bl_al (bl_al (bl0 _) _) _) _) _) hb | exact bl_tr (bl_dr (bl_al (bl_al (bl_al (bl_al (bl0 _) _) _) _) _)) hb | exact bl_tr (bl_al (bl_al (bl_al (bl_al (bl_al (bl0 _) _) _) _) _) _) hb | exact bl_tr (bl_dr (bl_al (bl_al (bl_al (bl_al (bl_al (bl0 _) _) _) _) _) _)) hb | exact bl_tr (bl_al (bl_al (bl_al (bl_al (bl_al (bl_al (bl0 _) _) _) _) _) _) _) hb | exact bl_tr (bl_dr (bl_al (bl_al (bl_al (bl_al (bl_al (bl_al (bl0 _) _) _) _) _) _) _)) hb | exact bl_tr (bl_dr (bl0 _)) hb
      replace hA := bl_tr hA hk
      have f0 := cell_later hb (v := .int .i64 A) (a := ⟨w.heap.size, 0, none⟩) (by simp [go_sem])
      have f1 := cell_later hb (v := .int .i64 B) (a := ⟨w.heap.size, 1, none⟩) (by simp [go_sem])
      have g0 := cell_later hb (v := .int .i64 X) (a := ⟨w.heap.size + 1, 0, none⟩) (by simp [go_sem])
      have g1 := cell_later hb (v := .int .i64 Y) (a := ⟨w.heap.size + 1, 1, none⟩) (by simp [go_sem])
      have g2 := cell_later hb (v := .int .i64 U) (a := ⟨w.heap.size + 1, 2, none⟩) (by simp [go_sem])
      have g3 := cell_later hb (v := .int .i64 V) (a := ⟨w.heap.size + 1, 3, none⟩) (by simp [go_sem])
      clear hb hk
      have zf0 := blk_lt f0
      have zf1 := blk_lt f1
      have zg0 := blk_lt g0
      have zg1 := blk_lt g1
      have zg2 := blk_lt g2
      have zg3 := blk_lt g3
      go_wp2_with fail
      refine (H2.out _).mono ?_
      rintro e w2 ⟨rfl, hb⟩
      have hk : Below w1.heap.size w1 w2 := by first | exact hb | exact bl_tr (bl_al (bl0 _) _) hb | exact bl_tr (bl_dr (bl_al (bl0 _) _)) hb | exact bl_tr (bl_al (bl_al (bl0 _) _) _) hb | exact bl_tr (bl_dr (bl_al (bl_al (bl0 _) _) _)) hb | exact bl_tr (bl_al (bl_al (bl_al (bl0 _) _) _) _) hb | exact bl_tr (bl_dr (bl_al (bl_al (bl_al (bl0 _) _) _) _)) hb | exact bl_tr (bl_al (bl_al (bl_al (bl_al (bl0 _) _) _) _) _) hb | exact bl_tr (bl_dr (bl_al (bl_al (bl_al (bl_al (bl0 _) _) _) _) _)) hb | exact bl_tr (bl_al (bl_al (bl_al (bl_al (bl_al (bl0 _) _) _) _) _) _) hb | exact bl_tr (bl_dr (bl_al (bl_al (bl_al (bl_al (bl_al (bl0 _) _) _) _) _) _)) hb | exact bl_tr (bl_al (bl_al (bl_al (bl_al (bl_al (bl_al (bl0 _) _) _) _) _) _) _) hb | exact bl_tr (bl_dr (bl_al (bl_al (bl_al (bl_al (bl_al (bl_al (bl0 _) _) _) _) _) _) _)) hb | exact bl_tr (bl_dr (bl0 _)) hb
      replace hA := bl_tr hA hk
      clear hb hk
      go_wp2
      go_ret
      exact ⟨rfl, hA⟩
  · rw [if_neg h0] at hE
    rw [hE] at H1 h0
    have h1 : (E != 0) = true := by rw [bne_iff_ne]; exact h0
    clear hE h0
    go_enter Tryd.func10, Tryd.ntmps10
    go_wp2_with fail
    refine (H1.out _).mono ?_
    rintro e w1 ⟨rfl, hb⟩
    have hk : Below w.heap.size w w1 := by first | exact hb | exact bl_tr (bl_al (bl0 _) _) hb | exact bl_tr (bl_dr (bl_al (bl0 _) _)) hb | exact bl_tr (bl_al (bl_al (bl0 _) _) _) hb | exact bl_tr (bl_dr (bl_al (bl_al (bl0 _) _) _)) hb | exact bl_tr (bl_al (bl_al (bl_al (bl0 _) _) _) _) hb | exact bl_tr (bl_dr (bl_al (bl_al (bl_al (bl0 _) _) _) _)) hb | exact bl_tr (bl_al (bl_al (bl_al (bl_al (bl0 _) _) _) _) _) hb | exact bl_tr (bl_dr (bl_al (bl_al (bl_al (bl_al (bl0 _) _) _) _) _)) hb | exact bl_tr (bl_al (bl_al (bl_al (bl_al (bl_al (bl0 _) _) _) _) _) _) hb | exact bl_tr (bl_dr (bl_al (bl_al (bl_al (bl_al (bl_al (bl0 _) _) _) _) _) _)) hb | exact bl_tr (bl_al (bl_al (bl_al (bl_al (bl_al (bl_al (bl0 _) _) _) _) _) _) _) hb | exact bl_tr (bl_dr (bl_al (bl_al (bl_al (bl_al (bl_al (bl_al (bl0 _) _) _) _) _) _) _)) hb | exact bl_tr (bl_dr (bl0 _)) hb
    replace hA := bl_tr hA hk
    clear hb hk
    go_wp2
    go_ret
    exact ⟨rfl, hA⟩
theorem box_nat {A B X Y U V : Int} (hf : fitsB A B X Y U V = true) : ∃ (u v : Nat), U = u ∧ V = v ∧ BoxOn A B X Y u v := by
  obtain ⟨f1, f2, f3, f4, f5, f6, f7, f8⟩ := fitsB_iff.1 hf
  obtain ⟨m1, m2, m3, m4⟩ := mayB_iff.1 f2
  exact ⟨U.toNat, V.toNat, by omega, by omega, ⟨m1, m2⟩, ⟨m3, m4⟩, ⟨by omega, by omega⟩, ⟨by omega, by omega⟩, by omega, by omega⟩
/-- The reference's Far, of what is right: what is told. -/
theorem far8_eq (A B X Y U V : Int) (a : Option Addr) (cap : Nat) (zs : List Int) (c : IC) (ds : List Int) (w : World) (hr : RowH w a zs) (hz : AllH zs) (hn : (zs.length : Int) = A * B) (hf : fitsB A B X Y U V = true) (hc : inBx (X, Y, U, V) c = true)
    (hl : ds.length = zs.length) (hd : Far (gphB A B (X, Y, U, V) zs) (numN A c) (atD ds)) :
    Calls Tryd.prog 12 #[.agg #[.int .i64 A, .int .i64 B, .slice a zs.length cap], .agg #[.int .i64 X, .int .i64 Y, .int .i64 U, .int .i64 V], .agg #[.int .i64 c.1, .int .i64 c.2]] w fun e w' => ∃ g, e = .returned (.slice (some ⟨g, 0, none⟩) ds.length ds.length) ∧ RowU w' (some ⟨g, 0, none⟩) ds ∧ Below w.heap.size w w' := by
  have hm := (fitsB_iff.1 hf).2.1
  have he := farO_eq (b := (X, Y, U, V)) hm hn hz hf hc hl hd
  obtain ⟨u, v, rfl, rfl, hx⟩ := box_nat hf
  have h := far8_any A B X Y u v a cap zs c w hr hz hn hx hc
  rw [he] at h
  rw [hl]
  exact h
end Go.Proofs.YtgbhafadibdmcaaDoor
