/- Parts: the closure that tells those beside one, and Beside. -/
import Derived.Test.YtbdfjdipjacamaaDoorDe
import Derived.Test.YtbdfjdipjacamaaDoorRo
import Derived.Test.YtbdfjdipjacamaaDoorAcg
namespace Go.Proofs.YtbdfjdipjacamaaDoor
open Go.RowKit

/-- The closure's boxes. -/
def BesAt (W : World) (b q : Nat) (A B S : Int) (p : IC) : Prop :=
  (W.cell? ⟨b, 0, none⟩ = some (.int .i64 A) ∧ W.cell? ⟨b, 1, none⟩ = some (.int .i64 B) ∧ W.cell? ⟨b, 2, none⟩ = some (.int .i64 S)) ∧ W.cell? ⟨q, 0, none⟩ = some (.int .i64 p.1) ∧ W.cell? ⟨q, 1, none⟩ = some (.int .i64 p.2)
theorem BesAt.below {W W' : World} {b q : Nat} {A B S : Int} {p : IC} (h : BesAt W b q A B S p) (hb : Below W.heap.size W W') : BesAt W' b q A B S p :=
  ⟨⟨cell_later hb h.1.1, cell_later hb h.1.2.1, cell_later hb h.1.2.2⟩, cell_later hb h.2.1, cell_later hb h.2.2⟩
theorem beside_mk (A B S : Int) (p : IC) (w : World) :
    Calls Tryd.prog 102 #[.agg #[.int .i64 A, .int .i64 B, .int .i64 S], .agg #[.int .i64 p.1, .int .i64 p.2]] w fun e w' =>
      e = .returned (.func (.func 130) #[] #[.pointer (some ⟨w.heap.size, 0, none⟩), .pointer (some ⟨w.heap.size + 1, 0, none⟩)]) ∧ BesAt w' w.heap.size (w.heap.size + 1) A B S p ∧ Below w.heap.size w w' := by
  go_enter Tryd.func102, Tryd.ntmps102
  go_wp2
  go_ret
  refine ⟨rfl, ⟨⟨?_, ?_, ?_⟩, ?_, ?_⟩, bl_al (bl_al (bl0 _) _) _⟩ <;> simp [go_sem]

/-- What it tells: which cluster, and whether there is one. -/
def besV (A B S : Int) (p : IC) (d : Int) : Int := if toP A B S p d = true then numP A S (stepI p d) else 0

theorem toP_stp {A B S : Int} {p : IC} {d : Int} (h0 : 0 ≤ d) (h4 : d < 4) (hp : onB (lieN A S) (lieN B S) p = true) :
    stpX (lieN A S) (lieN B S) p d = (if toP A B S p d = true then 0 else 10) := by
  unfold stpX toP
  rw [if_pos ⟨h0, h4⟩, hp, Bool.true_and]

set_option maxRecDepth 100000 in
set_option maxHeartbeats 4000000 in
theorem beside1_any (A B S : Int) (p : IC) (d : Int) (b q : Nat) (w : World) (hs : Stp w) (hr : rightP A B S = true) (hp : onB (lieN A S) (lieN B S) p = true) (h0 : 0 ≤ d) (h4 : d < 4) (hb : BesAt w b q A B S p) :
    Calls Tryd.prog 130 #[.int .i64 d, .pointer (some ⟨b, 0, none⟩), .pointer (some ⟨q, 0, none⟩)] w fun e w' =>
      e = .returned (.tuple #[.int .i64 (besV A B S p d), .bool (toP A B S p d)]) ∧ Below w.heap.size w w' := by
  obtain ⟨⟨f0, f1, f2⟩, c0, c1⟩ := hb
  have hst := toP_stp h0 h4 hp
  have HL := Lib.hid (fun w => lie_p A B S w hr)
  have HS := Lib.hid (fun w (h : Stp w) => step_any (lieN A S) (lieN B S) p d w h)
  have HV : toP A B S p d = true → stpV (lieN A S) (lieN B S) p d = stepI p d := fun h => by
    unfold stpV; rw [hst, if_pos h, if_pos rfl]
  have HI : toP A B S p d = true → ∀ w, Calls Tryd.prog 94 #[.agg #[.int .i64 (lieN A S), .int .i64 (lieN B S)], .agg #[.int .i64 (stepI p d).1, .int .i64 (stepI p d).2]] w fun e w' => e = .returned (.tuple #[.int .i64 (numP A S (stepI p d)), .int .i64 0]) ∧ Below w.heap.size w w' := fun h w =>
    index_yes _ _ _ _ w h
  have HI := Lib.hid HI
  have HV := Lib.hid HV
  unfold besV
  have z0 := blk_lt f0
  have z1 := blk_lt c0
  obtain ⟨t, ht⟩ : ∃ t, toP A B S p d = t := ⟨_, rfl⟩
  rw [ht] at hst HV HI ⊢
  obtain ⟨E, hE⟩ : ∃ E, stpX (lieN A S) (lieN B S) p d = E := ⟨_, rfl⟩
  rw [hE] at HS hst
  have HST := Lib.hid hst
  generalize stpV (lieN A S) (lieN B S) p d = V at *
  generalize stepI p d = V2 at *
  generalize numP A S V2 = num at *
  generalize lieN A S = la at *
  generalize lieN B S = lb at *
  clear hst hp hE ht hr
  go_enter Tryd.func130, Tryd.ntmps130
  go_upto_region 1 with fail
  have hBr := bl_dr (bl0 w)
  have HSS := Lib.hid (show ∀ W', Below w.heap.size w W' → W'.cell? ⟨b, 0, none⟩ = some (.int .i64 A) ∧ W'.cell? ⟨b, 1, none⟩ = some (.int .i64 B) ∧ W'.cell? ⟨b, 2, none⟩ = some (.int .i64 S) ∧ W'.cell? ⟨q, 0, none⟩ = some (.int .i64 p.1) ∧ W'.cell? ⟨q, 1, none⟩ = some (.int .i64 p.2) from fun W' h => ⟨cell_later h f0, cell_later h f1, cell_later h f2, cell_later h c0, cell_later h c1⟩)
  go_cut [6, 7] from 10 to 17 (fun s t wx => ∃ m, s = .pointer (some ⟨m, 0, none⟩) ∧ t = .int .i64 E ∧ wx.cell? ⟨m, 0, none⟩ = some (.int .i64 V.1) ∧ wx.cell? ⟨m, 1, none⟩ = some (.int .i64 V.2) ∧ Below w.heap.size w wx)
  case first =>
    go_region_held3 (fun w' => w'.cell? ⟨b, 0, none⟩ = some (.int .i64 A) ∧ w'.cell? ⟨b, 1, none⟩ = some (.int .i64 B) ∧ w'.cell? ⟨b, 2, none⟩ = some (.int .i64 S) ∧ w'.cell? ⟨q, 0, none⟩ = some (.int .i64 p.1) ∧ w'.cell? ⟨q, 1, none⟩ = some (.int .i64 p.2))
      (first | exact HSS.out _ hBr | exact HSS.out _ (bl_al hBr _) | exact HSS.out _ (bl_dr (bl_al (bl0 w) _)) | exact HSS.out _ (bl_st (bl_st hBr (Nat.le_refl _) _) (Nat.le_refl _) _) | exact HSS.out _ (bl_st (bl_st hBr (by have := hb8.size; simp at this; omega) _) (by have := hb8.size; simp at this; omega) _) | exact HSS.out _ (bl_st (bl_st (bl_al hBr _) (by have := hBr.size; omega) _) (by have := hBr.size; omega) _))
      (first
      | (go_at_call 100; (with_reducible refine (HL.out _).mono ?_); rintro e w8 ⟨rfl, hb8⟩; (first | replace hBr := bl_tr hBr hb8 | (replace hBr := bl_tr (bl_dr (bl_al (bl0 w) _)) hb8; have k0 := cell_later hb8 (v := .int .i64 0) (a := ⟨w.heap.size, 0, none⟩) (by simp [go_sem]); have k1 := cell_later hb8 (v := .int .i64 0) (a := ⟨w.heap.size, 1, none⟩) (by simp [go_sem]); have k3 : w8.frozen? ⟨w.heap.size, 0, none⟩ = false := (hb8.frozen (p := ⟨w.heap.size, 0, none⟩) (by simp)).trans (by simp [go_sem]); have k4 : w8.frozen? ⟨w.heap.size, 1, none⟩ = false := (hb8.frozen (p := ⟨w.heap.size, 1, none⟩) (by simp)).trans (by simp [go_sem]); have k2 := blk_lt k0)))
      | (go_at_call 127; (first | with_reducible refine (HS.out _ (hs.below hBr)).mono ?_ | with_reducible refine (HS.out _ (hs.below (bl_al hBr _))).mono ?_); rintro e w9 ⟨rfl, hb9⟩; (first | (replace hBr := bl_tr hBr hb9; try (replace k3 := frozen_later hb9 k0 k3; replace k4 := frozen_later hb9 k1 k4; replace k0 := cell_later hb9 k0; replace k1 := cell_later hb9 k1; replace k2 := blk_lt k0)) | (replace hBr := bl_tr (bl_al hBr _) hb9; have k0 := cell_later hb9 (v := .int .i64 0) (a := ⟨w8.heap.size, 0, none⟩) (by simp [go_sem]); have k1 := cell_later hb9 (v := .int .i64 0) (a := ⟨w8.heap.size, 1, none⟩) (by simp [go_sem]); have k3 : w9.frozen? ⟨w8.heap.size, 0, none⟩ = false := (hb9.frozen (p := ⟨w8.heap.size, 0, none⟩) (by simp)).trans (by simp [go_sem]); have k4 : w9.frozen? ⟨w8.heap.size, 1, none⟩ = false := (hb9.frozen (p := ⟨w8.heap.size, 1, none⟩) (by simp)).trans (by simp [go_sem]); have k2 := blk_lt k0))))
    all_goals
      go_wp2_with fail
      go_meet
      first
        | exact ⟨_, rfl, rfl, by simp [go_sem], by simp [go_sem], bl_al hBr _⟩
        | exact ⟨w.heap.size, rfl, rfl, by simp [go_sem, k0], by simp [go_sem, k1], bl_st (bl_st hBr (Nat.le_refl _) _) (Nat.le_refl _) _⟩
        | exact ⟨w8.heap.size, rfl, rfl, by simp [go_sem, k0], by simp [go_sem, k1], bl_st (bl_st hBr (by have := hb8.size; simp at this; omega) _) (by have := hb8.size; simp at this; omega) _⟩
  case rest =>
    obtain ⟨m, rfl, rfl, v0, v1, hb⟩ := hcut
    cases t
    · have hE := HST.out
      simp only [Bool.false_eq_true, if_false] at hE
      subst hE
      go_wp2
      go_ret2
      exact ⟨rfl, hb⟩
    · have hE := HST.out
      simp only [if_true] at hE
      subst hE
      have hVV : V = V2 := HV.out rfl
      subst hVV
      have HI2 := Lib.hid (HI.out rfl)
      replace f0 := cell_later hb f0
      replace f1 := cell_later hb f1
      replace f2 := cell_later hb f2
      clear HI HV HST hBr HSS c0 c1 z0 z1
      have zv := blk_lt v0
      have zf := blk_lt f0
      go_upto_region 4 with fail
      have hB := bl_dr (bl0 wc)
      go_region_held3 (fun w' => w'.cell? ⟨b, 0, none⟩ = some (.int .i64 A) ∧ w'.cell? ⟨b, 1, none⟩ = some (.int .i64 B) ∧ w'.cell? ⟨b, 2, none⟩ = some (.int .i64 S) ∧ w'.cell? ⟨m, 0, none⟩ = some (.int .i64 V.1) ∧ w'.cell? ⟨m, 1, none⟩ = some (.int .i64 V.2))
        (exact ⟨cell_later hB f0, cell_later hB f1, cell_later hB f2, cell_later hB v0, cell_later hB v1⟩)
        (first
        | (go_at_call 100; (with_reducible refine (HL.out _).mono ?_); rintro e w9 ⟨rfl, hb9⟩; replace hB := bl_tr hB hb9)
        | (go_at_call 94; (with_reducible refine (HI2.out _).mono ?_); rintro e w8 ⟨rfl, hb8⟩; replace hB := bl_tr hB hb8))
      all_goals go_wp2
      all_goals go_ret2
      all_goals exact ⟨rfl, bl_tr hb hB⟩
end Go.Proofs.YtbdfjdipjacamaaDoor
