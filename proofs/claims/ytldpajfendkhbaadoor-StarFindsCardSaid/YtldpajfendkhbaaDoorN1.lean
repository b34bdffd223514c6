/- Texts joined: Ms, Mt, Mu, Mv, Mw, Mx, My, Mz. -/
import Derived.Test.YtldpajfendkhbaaDoorM1
import Derived.Test.YtldpajfendkhbaaDoorC1
import Derived.Test.YtldpajfendkhbaaDoorAtm
/- A search by guess: star.Find, whatever the arguments. -/
namespace Go.Proofs.YtldpajfendkhbaaDoor
open Go.RowKit Go.Maps

def errS (A H n : Int) (F T : IC) (budget : Int) : Int := if chkF A H n ≠ 0 then chkF A H n else if onB A H F = true ∧ onB A H T = true then (if budget < 0 then 1 else 0) else 10
/-- What a search tells. -/
def FindR (A H : Int) (zs : List Int) (F T : IC) (budget : Int) (B : Nat) (e : Ending) (W : World) : Prop :=
  (errS A H zs.length F T budget ≠ 0 → e = .returned (.tuple #[.agg #[.slice none 0 0, .int .u64 0, .int .i64 0], .int .i64 (errS A H zs.length F T budget)])) ∧
  (errS A H zs.length F T budget = 0 → (zs.getD (numN A F) 0 = 0 ∨ zs.getD (numN A T) 0 = 0 → e = .returned (.tuple #[.agg #[.slice none 0 0, .int .u64 0, .int .i64 0], .int .i64 22])) ∧
    (¬ (zs.getD (numN A F) 0 = 0 ∨ zs.getD (numN A T) 0 = 0) → SearchR A H zs (numN A F) (numN A T) budget B e W))
theorem errS_ok {A H n : Int} {F T : IC} {budget : Int} (h : errS A H n F T budget = 0) : chkF A H n = 0 ∧ onB A H F = true ∧ onB A H T = true ∧ 0 ≤ budget := by
  unfold errS at h
  split at h
  · rename_i q; exact absurd h q
  · rename_i q
    split at h
    · rename_i q2
      split at h
      · cases h
      · exact ⟨by omega, q2.1, q2.2, by omega⟩
    · cases h
theorem findR_no {A H : Int} {zs : List Int} {F T : IC} {budget E : Int} {B : Nat} {W : World} (h : errS A H zs.length F T budget = E) (h0 : E ≠ 0) : FindR A H zs F T budget B (.returned (.tuple #[.agg #[.slice none 0 0, .int .u64 0, .int .i64 0], .int .i64 E])) W := by
  subst h
  exact ⟨fun _ => rfl, fun q => absurd q h0⟩
theorem findR_wall {A H : Int} {zs : List Int} {F T : IC} {budget : Int} {B : Nat} {W : World} (h : errS A H zs.length F T budget = 0) (h0 : zs.getD (numN A F) 0 = 0 ∨ zs.getD (numN A T) 0 = 0) : FindR A H zs F T budget B (.returned (.tuple #[.agg #[.slice none 0 0, .int .u64 0, .int .i64 0], .int .i64 22])) W :=
  ⟨fun q => absurd h q, fun _ => ⟨fun _ => rfl, fun q => absurd h0 q⟩⟩

theorem searchR_shape {A H : Int} {zs : List Int} {s0 goal : Nat} {budget : Int} {B : Nat} {e : Ending} {W : World} (h : SearchR A H zs s0 goal budget B e W) : ∃ (xa : Option Addr) (xn xc : Nat) (y z E : Int), e = .returned (.tuple #[.agg #[.slice xa xn xc, .int .u64 y, .int .i64 z], .int .i64 E]) := by
  obtain ⟨E, M, S', h1, h2, h3⟩ := h
  by_cases e0 : E = 0
  · obtain ⟨L, g, cap, _, _, rfl, _⟩ := h3 e0
    exact ⟨_, _, _, _, _, _, rfl⟩
  · exact ⟨_, _, _, _, _, _, h2 e0⟩
theorem searchR_base {A H : Int} {zs : List Int} {s0 goal : Nat} {budget : Int} {B B' : Nat} {e : Ending} {W : World} (h : SearchR A H zs s0 goal budget B e W) (hb : B' ≤ B) : SearchR A H zs s0 goal budget B' e W := by
  obtain ⟨E, M, S', h1, h2, h3⟩ := h
  refine ⟨E, M, S', h1, h2, fun e0 => ?_⟩
  obtain ⟨L, g, cap, q1, q0, q2, q3⟩ := h3 e0
  exact ⟨L, g, cap, q1, q0, q2, own_base q3 hb⟩
theorem searchR_set {A H : Int} {zs : List Int} {s0 goal : Nat} {budget : Int} {B : Nat} {e : Ending} {W : World} (h : SearchR A H zs s0 goal budget B e W) {z : Nat} (hz : z < B) (o : Nat) (v : Value) : SearchR A H zs s0 goal budget B e (W.setCell ⟨z, o, none⟩ v) := by
  obtain ⟨E, M, S', h1, h2, h3⟩ := h
  refine ⟨E, M, S', h1, h2, fun e0 => ?_⟩
  obtain ⟨L, g, cap, q1, q0, q2, q3⟩ := h3 e0
  refine ⟨L, g, cap, q1, q0, q2, (KeptS.of_grown (S := fun x => x = z) (hgrown_set W z o v) (fun x e _ => by cases e; rfl)).own q3 (fun r hr q => ?_)⟩
  have : some g = some r := hr
  cases this
  have := (q3.lt g rfl).1
  omega

set_option maxRecDepth 100000 in
set_option maxHeartbeats 4000000 in
theorem sfind_far (A H : Int) (a : Option Addr) (cap : Nat) (zs : List Int) (F T : IC) (budget : Int) (w : World) (hr : RowH w a zs) (hz : AllH zs) (hst : Stp w) (hfar : errS A H zs.length F T budget = 0 → ∃ d, Far (gph A H zs) (numN A F) d) :
    Calls Tryd.prog 11 #[.agg #[.int .i64 A, .int .i64 H, .slice a zs.length cap], .agg #[.int .i64 F.1, .int .i64 F.2], .agg #[.int .i64 T.1, .int .i64 T.2], .int .i64 budget] w fun e w' => FindR A H zs F T budget w.heap.size e w' ∧ Below w.heap.size w w' := by
  have hA := bl0 w
  have HFR := Lib.hid hfar
  clear hfar
  by_cases hc : chkF A H zs.length = 0
  case neg =>
    have HE := Lib.hid (show errS A H zs.length F T budget = chkF A H zs.length from if_pos hc)
    have HC := Lib.hid hc
    obtain ⟨E, hE⟩ : ∃ E, chkF A H zs.length = E := ⟨_, rfl⟩
    have HCK := Lib.hid (fun w => check_any A H a zs.length cap w)
    rw [hE] at HE HC HCK hc
    have hb : (E != (0 : Int)) = true := by rw [bne_iff_ne]; exact hc
    clear hE hc
    go_enter Tryd.func11, Tryd.ntmps11
    go_wp2_with fail
    refine (HCK.out _).mono ?_
    rintro e W1 ⟨rfl, hb⟩
    have hk : Below w.heap.size w W1 := by first | exact hb | exact bl_tr (bl_al (bl0 _) _) hb | exact bl_tr (bl_dr (bl_al (bl0 _) _)) hb | exact bl_tr (bl_al (bl_al (bl0 _) _) _) hb | exact bl_tr (bl_dr (bl_al (bl_al (bl0 _) _) _)) hb | exact bl_tr (bl_al (bl_al (bl_al (bl0 _) _) _) _) hb | exact bl_tr (bl_dr (bl_al (bl_al (bl_al (bl0 _) _) _) _)) hb | exact bl_tr (bl_al (bl_al (bl_al (bl_al (bl0 _) _) _) _) _) hb | exact bl_tr (bl_dr (bl_al (bl_al (bl_al (bl_al (bl0 _) _) _) _) _)) hb | exact bl_tr (bl_al (bl_al (bl_al (bl_al (bl_al (bl0 _) _) _) _) _) _) hb | exact bl_tr (bl_dr (bl_al (bl_al (bl_al (bl_al (bl_al (bl0 _) _) _) _) _) _)) hb | exact bl_tr (bl_al (bl_al (bl_al (bl_al (bl_al (bl_al (bl0 _) _) _) _) _) _) _) hb | exact bl_tr (bl_dr (bl_al (bl_al (bl_al (bl_al (bl_al (bl_al (bl0 _) _) _) _) _) _) _)) hb | exact bl_tr (bl_dr (bl0 _)) hb
    replace hA := bl_tr hA hk
    have r0 := cell_later hb (v := .slice none 0 0) (a := ⟨w.heap.size + 1 + 1 + 1, 0, none⟩) (by simp [go_sem])
    have r1 := cell_later hb (v := .int .u64 0) (a := ⟨w.heap.size + 1 + 1 + 1, 1, none⟩) (by simp [go_sem])
    have r2 := cell_later hb (v := .int .i64 0) (a := ⟨w.heap.size + 1 + 1 + 1, 2, none⟩) (by simp [go_sem])
    have f0 : W1.frozen? ⟨w.heap.size + 1 + 1 + 1, 0, none⟩ = false := (hb.frozen (p := ⟨w.heap.size + 1 + 1 + 1, 0, none⟩) (by simp <;> omega)).trans (by simp [go_sem])
    have f1 : W1.frozen? ⟨w.heap.size + 1 + 1 + 1, 1, none⟩ = false := (hb.frozen (p := ⟨w.heap.size + 1 + 1 + 1, 1, none⟩) (by simp <;> omega)).trans (by simp [go_sem])
    have f2 : W1.frozen? ⟨w.heap.size + 1 + 1 + 1, 2, none⟩ = false := (hb.frozen (p := ⟨w.heap.size + 1 + 1 + 1, 2, none⟩) (by simp <;> omega)).trans (by simp [go_sem])
    clear hb hk
    have zr0 := blk_lt r0
    have zr1 := blk_lt r1
    have zr2 := blk_lt r2
    go_wp2
    refine bodyPost_ret (v := .tuple #[.agg #[.slice none 0 0, .int .u64 0, .int .i64 0], .int .i64 E]) (by simp [results, Tryd.results11, go_sem, r0, r1, r2]) rfl ⟨findR_no HE.out HC.out, ?_⟩
    exact bl_st (bl_st (bl_st hA (by omega) _) (by omega) _) (by omega) _
  case pos =>
  have HCK := Lib.hid (fun w => check_any A H a zs.length cap w)
  rw [hc] at HCK
  obtain ⟨hm, hn⟩ := chkF_may hc
  have HI1 := Lib.hid (fun w => (show Calls Tryd.prog 21 #[.agg #[.int .i64 A, .int .i64 H], .agg #[.int .i64 F.1, .int .i64 F.2]] w fun e w' => e = .returned (.bool (onB A H F)) ∧ Below w.heap.size w w' from in_any A H F.1 F.2 w))
  have HI2 := Lib.hid (fun w => (show Calls Tryd.prog 21 #[.agg #[.int .i64 A, .int .i64 H], .agg #[.int .i64 T.1, .int .i64 T.2]] w fun e w' => e = .returned (.bool (onB A H T)) ∧ Below w.heap.size w w' from in_any A H T.1 T.2 w))
  by_cases hF : onB A H F = true
  case neg =>
    have HE := Lib.hid (show errS A H zs.length F T budget = 10 by unfold errS; rw [if_neg (fun q => q hc), if_neg (fun q => hF q.1)])
    rw [Bool.eq_false_iff.2 hF] at HI1
    clear hF hc
    go_enter Tryd.func11, Tryd.ntmps11
    go_wp2_with fail
    refine (HCK.out _).mono ?_
    rintro e W1 ⟨rfl, hb⟩
    have hk : Below w.heap.size w W1 := by first | exact hb | exact bl_tr (bl_al (bl0 _) _) hb | exact bl_tr (bl_dr (bl_al (bl0 _) _)) hb | exact bl_tr (bl_al (bl_al (bl0 _) _) _) hb | exact bl_tr (bl_dr (bl_al (bl_al (bl0 _) _) _)) hb | exact bl_tr (bl_al (bl_al (bl_al (bl0 _) _) _) _) hb | exact bl_tr (bl_dr (bl_al (bl_al (bl_al (bl0 _) _) _) _)) hb | exact bl_tr (bl_al (bl_al (bl_al (bl_al (bl0 _) _) _) _) _) hb | exact bl_tr (bl_dr (bl_al (bl_al (bl_al (bl_al (bl0 _) _) _) _) _)) hb | exact bl_tr (bl_al (bl_al (bl_al (bl_al (bl_al (bl0 _) _) _) _) _) _) hb | exact bl_tr (bl_dr (bl_al (bl_al (bl_al (bl_al (bl_al (bl0 _) _) _) _) _) _)) hb | exact bl_tr (bl_al (bl_al (bl_al (bl_al (bl_al (bl_al (bl0 _) _) _) _) _) _) _) hb | exact bl_tr (bl_dr (bl_al (bl_al (bl_al (bl_al (bl_al (bl_al (bl0 _) _) _) _) _) _) _)) hb | exact bl_tr (bl_dr (bl0 _)) hb
    replace hA := bl_tr hA hk
    have x0 := cell_later hb (v := .int .i64 A) (a := ⟨w.heap.size, 0, none⟩) (by simp [go_sem])
    have x1 := cell_later hb (v := .int .i64 H) (a := ⟨w.heap.size, 1, none⟩) (by simp [go_sem])
    have x2 := cell_later hb (v := .slice a zs.length cap) (a := ⟨w.heap.size, 2, none⟩) (by simp [go_sem])
    have y0 := cell_later hb (v := .int .i64 F.1) (a := ⟨w.heap.size + 1, 0, none⟩) (by simp [go_sem])
    have y1 := cell_later hb (v := .int .i64 F.2) (a := ⟨w.heap.size + 1, 1, none⟩) (by simp [go_sem])
    have z0 := cell_later hb (v := .int .i64 T.1) (a := ⟨w.heap.size + 1 + 1, 0, none⟩) (by simp [go_sem])
    have z1 := cell_later hb (v := .int .i64 T.2) (a := ⟨w.heap.size + 1 + 1, 1, none⟩) (by simp [go_sem])
    have r0 := cell_later hb (v := .slice none 0 0) (a := ⟨w.heap.size + 1 + 1 + 1, 0, none⟩) (by simp [go_sem])
    have r1 := cell_later hb (v := .int .u64 0) (a := ⟨w.heap.size + 1 + 1 + 1, 1, none⟩) (by simp [go_sem])
    have r2 := cell_later hb (v := .int .i64 0) (a := ⟨w.heap.size + 1 + 1 + 1, 2, none⟩) (by simp [go_sem])
    have f0 : W1.frozen? ⟨w.heap.size + 1 + 1 + 1, 0, none⟩ = false := (hb.frozen (p := ⟨w.heap.size + 1 + 1 + 1, 0, none⟩) (by simp <;> omega)).trans (by simp [go_sem])
    have f1 : W1.frozen? ⟨w.heap.size + 1 + 1 + 1, 1, none⟩ = false := (hb.frozen (p := ⟨w.heap.size + 1 + 1 + 1, 1, none⟩) (by simp <;> omega)).trans (by simp [go_sem])
    have f2 : W1.frozen? ⟨w.heap.size + 1 + 1 + 1, 2, none⟩ = false := (hb.frozen (p := ⟨w.heap.size + 1 + 1 + 1, 2, none⟩) (by simp <;> omega)).trans (by simp [go_sem])
    clear hb hk
    have zx0 := blk_lt x0
    have zx1 := blk_lt x1
    have zx2 := blk_lt x2
    have zy0 := blk_lt y0
    have zy1 := blk_lt y1
    have zz0 := blk_lt z0
    have zz1 := blk_lt z1
    have zr0 := blk_lt r0
    have zr1 := blk_lt r1
    have zr2 := blk_lt r2
    go_wp2_with fail
    refine (HI1.out _).mono ?_
    rintro e W2 ⟨rfl, hb⟩
    have hk : Below W1.heap.size W1 W2 := by first | exact hb | exact bl_tr (bl_al (bl0 _) _) hb | exact bl_tr (bl_dr (bl_al (bl0 _) _)) hb | exact bl_tr (bl_al (bl_al (bl0 _) _) _) hb | exact bl_tr (bl_dr (bl_al (bl_al (bl0 _) _) _)) hb | exact bl_tr (bl_al (bl_al (bl_al (bl0 _) _) _) _) hb | exact bl_tr (bl_dr (bl_al (bl_al (bl_al (bl0 _) _) _) _)) hb | exact bl_tr (bl_al (bl_al (bl_al (bl_al (bl0 _) _) _) _) _) hb | exact bl_tr (bl_dr (bl_al (bl_al (bl_al (bl_al (bl0 _) _) _) _) _)) hb | exact bl_tr (bl_al (bl_al (bl_al (bl_al (bl_al (bl0 _) _) _) _) _) _) hb | exact bl_tr (bl_dr (bl_al (bl_al (bl_al (bl_al (bl_al (bl0 _) _) _) _) _) _)) hb | exact bl_tr (bl_al (bl_al (bl_al (bl_al (bl_al (bl_al (bl0 _) _) _) _) _) _) _) hb | exact bl_tr (bl_dr (bl_al (bl_al (bl_al (bl_al (bl_al (bl_al (bl0 _) _) _) _) _) _) _)) hb | exact bl_tr (bl_dr (bl0 _)) hb
    replace hA := bl_tr hA hk
    replace f0 := frozen_later hk r0 f0
    replace f1 := frozen_later hk r1 f1
    replace f2 := frozen_later hk r2 f2
    replace x0 := cell_later hk x0
    replace x1 := cell_later hk x1
    replace x2 := cell_later hk x2
    replace y0 := cell_later hk y0
    replace y1 := cell_later hk y1
    replace z0 := cell_later hk z0
    replace z1 := cell_later hk z1
    replace r0 := cell_later hk r0
    replace r1 := cell_later hk r1
    replace r2 := cell_later hk r2
    clear hb hk
    have zx0 := blk_lt x0
    have zx1 := blk_lt x1
    have zx2 := blk_lt x2
    have zy0 := blk_lt y0
    have zy1 := blk_lt y1
    have zz0 := blk_lt z0
    have zz1 := blk_lt z1
    have zr0 := blk_lt r0
    have zr1 := blk_lt r1
    have zr2 := blk_lt r2
    go_wp2
    refine bodyPost_ret (v := .tuple #[.agg #[.slice none 0 0, .int .u64 0, .int .i64 0], .int .i64 10]) (by simp [results, Tryd.results11, go_sem, r0, r1, r2]) rfl ⟨findR_no HE.out (by decide), ?_⟩
    exact bl_st (bl_st (bl_st hA (by omega) _) (by omega) _) (by omega) _
  case pos =>
  rw [hF] at HI1
  by_cases hT : onB A H T = true
  case neg =>
    have HE := Lib.hid (show errS A H zs.length F T budget = 10 by unfold errS; rw [if_neg (fun q => q hc), if_neg (fun q => hT q.2)])
    rw [Bool.eq_false_iff.2 hT] at HI2
    clear hF hT hc
    go_enter Tryd.func11, Tryd.ntmps11
    go_wp2_with fail
    refine (HCK.out _).mono ?_
    rintro e W1 ⟨rfl, hb⟩
    have hk : Below w.heap.size w W1 := by first | exact hb | exact bl_tr (bl_al (bl0 _) _) hb | exact bl_tr (bl_dr (bl_al (bl0 _) _)) hb | exact bl_tr (bl_al (bl_al (bl0 _) _) _) hb | exact bl_tr (bl_dr (bl_al (bl_al (bl0 _) _) _)) hb | exact bl_tr (bl_al (bl_al (bl_al (bl0 _) _) _) _) hb | exact bl_tr (bl_dr (bl_al (bl_al (bl_al (bl0 _) _) _) _)) hb | exact bl_tr (bl_al (bl_al (bl_al (bl_al (bl0 _) _) _) _) _) hb | exact bl_tr (bl_dr (bl_al (bl_al (bl_al (bl_al (bl0 _) _) _) _) _)) hb | exact bl_tr (bl_al (bl_al (bl_al (bl_al (bl_al (bl0 _) _) _) _) _) _) hb | exact bl_tr (bl_dr (bl_al (bl_al (bl_al (bl_al (bl_al (bl0 _) _) _) _) _) _)) hb | exact bl_tr (bl_al (bl_al (bl_al (bl_al (bl_al (bl_al (bl0 _) _) _) _) _) _) _) hb | exact bl_tr (bl_dr (bl_al (bl_al (bl_al (bl_al (bl_al (bl_al (bl0 _) _) _) _) _) _) _)) hb | exact bl_tr (bl_dr (bl0 _)) hb
    replace hA := bl_tr hA hk
    have x0 := cell_later hb (v := .int .i64 A) (a := ⟨w.heap.size, 0, none⟩) (by simp [go_sem])
    have x1 := cell_later hb (v := .int .i64 H) (a := ⟨w.heap.size, 1, none⟩) (by simp [go_sem])
    have x2 := cell_later hb (v := .slice a zs.length cap) (a := ⟨w.heap.size, 2, none⟩) (by simp [go_sem])
    have y0 := cell_later hb (v := .int .i64 F.1) (a := ⟨w.heap.size + 1, 0, none⟩) (by simp [go_sem])
    have y1 := cell_later hb (v := .int .i64 F.2) (a := ⟨w.heap.size + 1, 1, none⟩) (by simp [go_sem])
    have z0 := cell_later hb (v := .int .i64 T.1) (a := ⟨w.heap.size + 1 + 1, 0, none⟩) (by simp [go_sem])
    have z1 := cell_later hb (v := .int .i64 T.2) (a := ⟨w.heap.size + 1 + 1, 1, none⟩) (by simp [go_sem])
    have r0 := cell_later hb (v := .slice none 0 0) (a := ⟨w.heap.size + 1 + 1 + 1, 0, none⟩) (by simp [go_sem])
    have r1 := cell_later hb (v := .int .u64 0) (a := ⟨w.heap.size + 1 + 1 + 1, 1, none⟩) (by simp [go_sem])
    have r2 := cell_later hb (v := .int .i64 0) (a := ⟨w.heap.size + 1 + 1 + 1, 2, none⟩) (by simp [go_sem])
    have f0 : W1.frozen? ⟨w.heap.size + 1 + 1 + 1, 0, none⟩ = false := (hb.frozen (p := ⟨w.heap.size + 1 + 1 + 1, 0, none⟩) (by simp <;> omega)).trans (by simp [go_sem])
    have f1 : W1.frozen? ⟨w.heap.size + 1 + 1 + 1, 1, none⟩ = false := (hb.frozen (p := ⟨w.heap.size + 1 + 1 + 1, 1, none⟩) (by simp <;> omega)).trans (by simp [go_sem])
    have f2 : W1.frozen? ⟨w.heap.size + 1 + 1 + 1, 2, none⟩ = false := (hb.frozen (p := ⟨w.heap.size + 1 + 1 + 1, 2, none⟩) (by simp <;> omega)).trans (by simp [go_sem])
    clear hb hk
    have zx0 := blk_lt x0
    have zx1 := blk_lt x1
    have zx2 := blk_lt x2
    have zy0 := blk_lt y0
    have zy1 := blk_lt y1
    have zz0 := blk_lt z0
    have zz1 := blk_lt z1
    have zr0 := blk_lt r0
    have zr1 := blk_lt r1
    have zr2 := blk_lt r2
    go_wp2_with fail
    refine (HI1.out _).mono ?_
    rintro e W2 ⟨rfl, hb⟩
    have hk : Below W1.heap.size W1 W2 := by first | exact hb | exact bl_tr (bl_al (bl0 _) _) hb | exact bl_tr (bl_dr (bl_al (bl0 _) _)) hb | exact bl_tr (bl_al (bl_al (bl0 _) _) _) hb | exact bl_tr (bl_dr (bl_al (bl_al (bl0 _) _) _)) hb | exact bl_tr (bl_al (bl_al (bl_al (bl0 _) _) _) _) hb | exact bl_tr (bl_dr (bl_al (bl_al (bl_al (bl0 _) _) _) _)) hb | exact bl_tr (bl_al (bl_al (bl_al (bl_al (bl0 _) _) _) _) _) hb | exact bl_tr (bl_dr (bl_al (bl_al (bl_al (bl_al (bl0 _) _) _) _) _)) hb | exact bl_tr (bl_al (bl_al (bl_al (bl_al (bl_al (bl0 _) _) _) _) _) _) hb | exact bl_tr (bl_dr (bl_al (bl_al (bl_al (bl_al (bl_al (bl0 _) _) _) _) _) _)) hb | exact bl_tr (bl_al (bl_al (bl_al (bl_al (bl_al (bl_al (bl0 _) _) _) _) _) _) _) hb | exact bl_tr (bl_dr (bl_al (bl_al (bl_al (bl_al (bl_al (bl_al (bl0 _) _) _) _) _) _) _)) hb | exact bl_tr (bl_dr (bl0 _)) hb
    replace hA := bl_tr hA hk
    replace f0 := frozen_later hk r0 f0
    replace f1 := frozen_later hk r1 f1
    replace f2 := frozen_later hk r2 f2
    replace x0 := cell_later hk x0
    replace x1 := cell_later hk x1
    replace x2 := cell_later hk x2
    replace y0 := cell_later hk y0
    replace y1 := cell_later hk y1
    replace z0 := cell_later hk z0
    replace z1 := cell_later hk z1
    replace r0 := cell_later hk r0
    replace r1 := cell_later hk r1
    replace r2 := cell_later hk r2
    clear hb hk
    have zx0 := blk_lt x0
    have zx1 := blk_lt x1
    have zx2 := blk_lt x2
    have zy0 := blk_lt y0
    have zy1 := blk_lt y1
    have zz0 := blk_lt z0
    have zz1 := blk_lt z1
    have zr0 := blk_lt r0
    have zr1 := blk_lt r1
    have zr2 := blk_lt r2
    go_wp2_with fail
    refine (HI2.out _).mono ?_
    rintro e W3 ⟨rfl, hb⟩
    have hk : Below W2.heap.size W2 W3 := by first | exact hb | exact bl_tr (bl_al (bl0 _) _) hb | exact bl_tr (bl_dr (bl_al (bl0 _) _)) hb | exact bl_tr (bl_al (bl_al (bl0 _) _) _) hb | exact bl_tr (bl_dr (bl_al (bl_al (bl0 _) _) _)) hb | exact bl_tr (bl_al (bl_al (bl_al (bl0 _) _) _) _) hb | exact bl_tr (bl_dr (bl_al (bl_al (bl_al (bl0 _) _) _) _)) hb | exact bl_tr (bl_al (bl_al (bl_al (bl_al (bl0 _) _) _) _) _) hb | exact bl_tr (bl_dr (bl_al (bl_al (bl_al (bl_al (bl0 _) _) _) _) _)) hb | exact bl_tr (bl_al (bl_al (bl_al (bl_al (bl_al (bl0 _) _) _) _) _) _) hb | exact bl_tr (bl_dr (bl_al (bl_al (bl_al (bl_al (bl_al (bl0 _) _) _) _) _) _)) hb | exact bl_tr (bl_al (bl_al (bl_al (bl_al (bl_al (bl_al (bl0 _) _) _) _) _) _) _) hb | exact bl_tr (bl_dr (bl_al (bl_al (bl_al (bl_al (bl_al (bl_al (bl0 _) _) _) _) _) _) _)) hb | exact bl_tr (bl_dr (bl0 _)) hb
    replace hA := bl_tr hA hk
    replace f0 := frozen_later hk r0 f0
    replace f1 := frozen_later hk r1 f1
    replace f2 := frozen_later hk r2 f2
    replace x0 := cell_later hk x0
    replace x1 := cell_later hk x1
    replace x2 := cell_later hk x2
    replace y0 := cell_later hk y0
    replace y1 := cell_later hk y1
    replace z0 := cell_later hk z0
    replace z1 := cell_later hk z1
    replace r0 := cell_later hk r0
    replace r1 := cell_later hk r1
    replace r2 := cell_later hk r2
    clear hb hk
    have zx0 := blk_lt x0
    have zx1 := blk_lt x1
    have zx2 := blk_lt x2
    have zy0 := blk_lt y0
    have zy1 := blk_lt y1
    have zz0 := blk_lt z0
    have zz1 := blk_lt z1
    have zr0 := blk_lt r0
    have zr1 := blk_lt r1
    have zr2 := blk_lt r2
    go_wp2
    refine bodyPost_ret (v := .tuple #[.agg #[.slice none 0 0, .int .u64 0, .int .i64 0], .int .i64 10]) (by simp [results, Tryd.results11, go_sem, r0, r1, r2]) rfl ⟨findR_no HE.out (by decide), ?_⟩
    exact bl_st (bl_st (bl_st hA (by omega) _) (by omega) _) (by omega) _
  case pos =>
  rw [hT] at HI2
  by_cases hB : budget < 0
  case pos =>
    have HE := Lib.hid (show errS A H zs.length F T budget = 1 by unfold errS; rw [if_neg (fun q => q hc), if_pos ⟨hF, hT⟩, if_pos hB])
    clear hF hT hc
    go_enter Tryd.func11, Tryd.ntmps11
    go_wp2_with fail
    refine (HCK.out _).mono ?_
    rintro e W1 ⟨rfl, hb⟩
    have hk : Below w.heap.size w W1 := by first | exact hb | exact bl_tr (bl_al (bl0 _) _) hb | exact bl_tr (bl_dr (bl_al (bl0 _) _)) hb | exact bl_tr (bl_al (bl_al (bl0 _) _) _) hb | exact bl_tr (bl_dr (bl_al (bl_al (bl0 _) _) _)) hb | exact bl_tr (bl_al (bl_al (bl_al (bl0 _) _) _) _) hb | exact bl_tr (bl_dr (bl_al (bl_al (bl_al (bl0 _) _) _) _)) hb | exact bl_tr (bl_al (bl_al (bl_al (bl_al (bl0 _) _) _) _) _) hb | exact bl_tr (bl_dr (bl_al (bl_al (bl_al (bl_al (bl0 _) _) _) _) _)) hb | exact bl_tr (bl_al (bl_al (bl_al (bl_al (bl_al (bl0 _) _) _) _) _) _) hb | exact bl_tr (bl_dr (bl_al (bl_al (bl_al (bl_al (bl_al (bl0 _) _) _) _) _) _)) hb | exact bl_tr (bl_al (bl_al (bl_al (bl_al (bl_al (bl_al (bl0 _) _) _) _) _) _) _) hb | exact bl_tr (bl_dr (bl_al (bl_al (bl_al (bl_al (bl_al (bl_al (bl0 _) _) _) _) _) _) _)) hb | exact bl_tr (bl_dr (bl0 _)) hb
    replace hA := bl_tr hA hk
    have x0 := cell_later hb (v := .int .i64 A) (a := ⟨w.heap.size, 0, none⟩) (by simp [go_sem])
    have x1 := cell_later hb (v := .int .i64 H) (a := ⟨w.heap.size, 1, none⟩) (by simp [go_sem])
    have x2 := cell_later hb (v := .slice a zs.length cap) (a := ⟨w.heap.size, 2, none⟩) (by simp [go_sem])
    have y0 := cell_later hb (v := .int .i64 F.1) (a := ⟨w.heap.size + 1, 0, none⟩) (by simp [go_sem])
    have y1 := cell_later hb (v := .int .i64 F.2) (a := ⟨w.heap.size + 1, 1, none⟩) (by simp [go_sem])
    have z0 := cell_later hb (v := .int .i64 T.1) (a := ⟨w.heap.size + 1 + 1, 0, none⟩) (by simp [go_sem])
    have z1 := cell_later hb (v := .int .i64 T.2) (a := ⟨w.heap.size + 1 + 1, 1, none⟩) (by simp [go_sem])
    have r0 := cell_later hb (v := .slice none 0 0) (a := ⟨w.heap.size + 1 + 1 + 1, 0, none⟩) (by simp [go_sem])
    have r1 := cell_later hb (v := .int .u64 0) (a := ⟨w.heap.size + 1 + 1 + 1, 1, none⟩) (by simp [go_sem])
    have r2 := cell_later hb (v := .int .i64 0) (a := ⟨w.heap.size + 1 + 1 + 1, 2, none⟩) (by simp [go_sem])
    have f0 : W1.frozen? ⟨w.heap.size + 1 + 1 + 1, 0, none⟩ = false := (hb.frozen (p := ⟨w.heap.size + 1 + 1 + 1, 0, none⟩) (by simp <;> omega)).trans (by simp [go_sem])
    have f1 : W1.frozen? ⟨w.heap.size + 1 + 1 + 1, 1, none⟩ = false := (hb.frozen (p := ⟨w.heap.size + 1 + 1 + 1, 1, none⟩) (by simp <;> omega)).trans (by simp [go_sem])
    have f2 : W1.frozen? ⟨w.heap.size + 1 + 1 + 1, 2, none⟩ = false := (hb.frozen (p := ⟨w.heap.size + 1 + 1 + 1, 2, none⟩) (by simp <;> omega)).trans (by simp [go_sem])
    clear hb hk
    have zx0 := blk_lt x0
    have zx1 := blk_lt x1
    have zx2 := blk_lt x2
    have zy0 := blk_lt y0
    have zy1 := blk_lt y1
    have zz0 := blk_lt z0
    have zz1 := blk_lt z1
    have zr0 := blk_lt r0
    have zr1 := blk_lt r1
    have zr2 := blk_lt r2
    go_wp2_with fail
    refine (HI1.out _).mono ?_
    rintro e W2 ⟨rfl, hb⟩
    have hk : Below W1.heap.size W1 W2 := by first | exact hb | exact bl_tr (bl_al (bl0 _) _) hb | exact bl_tr (bl_dr (bl_al (bl0 _) _)) hb | exact bl_tr (bl_al (bl_al (bl0 _) _) _) hb | exact bl_tr (bl_dr (bl_al (bl_al (bl0 _) _) _)) hb | exact bl_tr (bl_al (bl_al (bl_al (bl0 _) _) _) _) hb | exact bl_tr (bl_dr (bl_al (bl_al (bl_al (bl0 _) _) _) _)) hb | exact bl_tr (bl_al (bl_al (bl_al (bl_al (bl0 _) _) _) _) _) hb | exact bl_tr (bl_dr (bl_al (bl_al (bl_al (bl_al (bl0 _) _) _) _) _)) hb | exact bl_tr (bl_al (bl_al (bl_al (bl_al (bl_al (bl0 _) _) _) _) _) _) hb | exact bl_tr (bl_dr (bl_al (bl_al (bl_al (bl_al (bl_al (bl0 _) _) _) _) _) _)) hb | exact bl_tr (bl_al (bl_al (bl_al (bl_al (bl_al (bl_al (bl0 _) _) _) _) _) _) _) hb | exact bl_tr (bl_dr (bl_al (bl_al (bl_al (bl_al (bl_al (bl_al (bl0 _) _) _) _) _) _) _)) hb | exact bl_tr (bl_dr (bl0 _)) hb
    replace hA := bl_tr hA hk
    replace f0 := frozen_later hk r0 f0
    replace f1 := frozen_later hk r1 f1
    replace f2 := frozen_later hk r2 f2
    replace x0 := cell_later hk x0
    replace x1 := cell_later hk x1
    replace x2 := cell_later hk x2
    replace y0 := cell_later hk y0
    replace y1 := cell_later hk y1
    replace z0 := cell_later hk z0
    replace z1 := cell_later hk z1
    replace r0 := cell_later hk r0
    replace r1 := cell_later hk r1
    replace r2 := cell_later hk r2
    clear hb hk
    have zx0 := blk_lt x0
    have zx1 := blk_lt x1
    have zx2 := blk_lt x2
    have zy0 := blk_lt y0
    have zy1 := blk_lt y1
    have zz0 := blk_lt z0
    have zz1 := blk_lt z1
    have zr0 := blk_lt r0
    have zr1 := blk_lt r1
    have zr2 := blk_lt r2
    go_wp2_with fail
    refine (HI2.out _).mono ?_
    rintro e W3 ⟨rfl, hb⟩
    have hk : Below W2.heap.size W2 W3 := by first | exact hb | exact bl_tr (bl_al (bl0 _) _) hb | exact bl_tr (bl_dr (bl_al (bl0 _) _)) hb | exact bl_tr (bl_al (bl_al (bl0 _) _) _) hb | exact bl_tr (bl_dr (bl_al (bl_al (bl0 _) _) _)) hb | exact bl_tr (bl_al (bl_al (bl_al (bl0 _) _) _) _) hb | exact bl_tr (bl_dr (bl_al (bl_al (bl_al (bl0 _) _) _) _)) hb | exact bl_tr (bl_al (bl_al (bl_al (bl_al (bl0 _) _) _) _) _) hb | exact bl_tr (bl_dr (bl_al (bl_al (bl_al (bl_al (bl0 _) _) _) _) _)) hb | exact bl_tr (bl_al (bl_al (bl_al (bl_al (bl_al (bl0 _) _) _) _) _) _) hb | exact bl_tr (bl_dr (bl_al (bl_al (bl_al (bl_al (bl_al (bl0 _) _) _) _) _) _)) hb | exact bl_tr (bl_al (bl_al (bl_al (bl_al (bl_al (bl_al (bl0 _) _) _) _) _) _) _) hb | exact bl_tr (bl_dr (bl_al (bl_al (bl_al (bl_al (bl_al (bl_al (bl0 _) _) _) _) _) _) _)) hb | exact bl_tr (bl_dr (bl0 _)) hb
    replace hA := bl_tr hA hk
    replace f0 := frozen_later hk r0 f0
    replace f1 := frozen_later hk r1 f1
    replace f2 := frozen_later hk r2 f2
    replace x0 := cell_later hk x0
    replace x1 := cell_later hk x1
    replace x2 := cell_later hk x2
    replace y0 := cell_later hk y0
    replace y1 := cell_later hk y1
    replace z0 := cell_later hk z0
    replace z1 := cell_later hk z1
    replace r0 := cell_later hk r0
    replace r1 := cell_later hk r1
    replace r2 := cell_later hk r2
    clear hb hk
    have zx0 := blk_lt x0
    have zx1 := blk_lt x1
    have zx2 := blk_lt x2
    have zy0 := blk_lt y0
    have zy1 := blk_lt y1
    have zz0 := blk_lt z0
    have zz1 := blk_lt z1
    have zr0 := blk_lt r0
    have zr1 := blk_lt r1
    have zr2 := blk_lt r2
    go_wp2
    refine bodyPost_ret (v := .tuple #[.agg #[.slice none 0 0, .int .u64 0, .int .i64 0], .int .i64 1]) (by simp [results, Tryd.results11, go_sem, r0, r1, r2]) rfl ⟨findR_no HE.out (by decide), ?_⟩
    exact bl_st (bl_st (bl_st hA (by omega) _) (by omega) _) (by omega) _
  case neg =>
  have HE := Lib.hid (show errS A H zs.length F T budget = 0 by unfold errS; rw [if_neg (fun q => q hc), if_pos ⟨hF, hT⟩, if_neg hB])
  have HC1 := Lib.hid (fun W h => scost_any A H a cap zs F W h hz hF hn)
  have HC2 := Lib.hid (fun W h => scost_any A H a cap zs T W h hz hT hn)
  have HRH := Lib.hid (fun W (h : Below w.heap.size w W) => hr.below h)
  by_cases k1 : zs.getD (numN A F) 0 = 0
  case pos =>
    rw [k1] at HC1
    have HK := Lib.hid k1
    clear hF hT hc k1
    go_enter Tryd.func11, Tryd.ntmps11
    go_wp2_with fail
    refine (HCK.out _).mono ?_
    rintro e W1 ⟨rfl, hb⟩
    have hk : Below w.heap.size w W1 := by first | exact hb | exact bl_tr (bl_al (bl0 _) _) hb | exact bl_tr (bl_dr (bl_al (bl0 _) _)) hb | exact bl_tr (bl_al (bl_al (bl0 _) _) _) hb | exact bl_tr (bl_dr (bl_al (bl_al (bl0 _) _) _)) hb | exact bl_tr (bl_al (bl_al (bl_al (bl0 _) _) _) _) hb | exact bl_tr (bl_dr (bl_al (bl_al (bl_al (bl0 _) _) _) _)) hb | exact bl_tr (bl_al (bl_al (bl_al (bl_al (bl0 _) _) _) _) _) hb | exact bl_tr (bl_dr (bl_al (bl_al (bl_al (bl_al (bl0 _) _) _) _) _)) hb | exact bl_tr (bl_al (bl_al (bl_al (bl_al (bl_al (bl0 _) _) _) _) _) _) hb | exact bl_tr (bl_dr (bl_al (bl_al (bl_al (bl_al (bl_al (bl0 _) _) _) _) _) _)) hb | exact bl_tr (bl_al (bl_al (bl_al (bl_al (bl_al (bl_al (bl0 _) _) _) _) _) _) _) hb | exact bl_tr (bl_dr (bl_al (bl_al (bl_al (bl_al (bl_al (bl_al (bl0 _) _) _) _) _) _) _)) hb | exact bl_tr (bl_dr (bl0 _)) hb
    replace hA := bl_tr hA hk
    have x0 := cell_later hb (v := .int .i64 A) (a := ⟨w.heap.size, 0, none⟩) (by simp [go_sem])
    have x1 := cell_later hb (v := .int .i64 H) (a := ⟨w.heap.size, 1, none⟩) (by simp [go_sem])
    have x2 := cell_later hb (v := .slice a zs.length cap) (a := ⟨w.heap.size, 2, none⟩) (by simp [go_sem])
    have y0 := cell_later hb (v := .int .i64 F.1) (a := ⟨w.heap.size + 1, 0, none⟩) (by simp [go_sem])
    have y1 := cell_later hb (v := .int .i64 F.2) (a := ⟨w.heap.size + 1, 1, none⟩) (by simp [go_sem])
    have z0 := cell_later hb (v := .int .i64 T.1) (a := ⟨w.heap.size + 1 + 1, 0, none⟩) (by simp [go_sem])
    have z1 := cell_later hb (v := .int .i64 T.2) (a := ⟨w.heap.size + 1 + 1, 1, none⟩) (by simp [go_sem])
    have r0 := cell_later hb (v := .slice none 0 0) (a := ⟨w.heap.size + 1 + 1 + 1, 0, none⟩) (by simp [go_sem])
    have r1 := cell_later hb (v := .int .u64 0) (a := ⟨w.heap.size + 1 + 1 + 1, 1, none⟩) (by simp [go_sem])
    have r2 := cell_later hb (v := .int .i64 0) (a := ⟨w.heap.size + 1 + 1 + 1, 2, none⟩) (by simp [go_sem])
    have f0 : W1.frozen? ⟨w.heap.size + 1 + 1 + 1, 0, none⟩ = false := (hb.frozen (p := ⟨w.heap.size + 1 + 1 + 1, 0, none⟩) (by simp <;> omega)).trans (by simp [go_sem])
    have f1 : W1.frozen? ⟨w.heap.size + 1 + 1 + 1, 1, none⟩ = false := (hb.frozen (p := ⟨w.heap.size + 1 + 1 + 1, 1, none⟩) (by simp <;> omega)).trans (by simp [go_sem])
    have f2 : W1.frozen? ⟨w.heap.size + 1 + 1 + 1, 2, none⟩ = false := (hb.frozen (p := ⟨w.heap.size + 1 + 1 + 1, 2, none⟩) (by simp <;> omega)).trans (by simp [go_sem])
    clear hb hk
    have zx0 := blk_lt x0
    have zx1 := blk_lt x1
    have zx2 := blk_lt x2
    have zy0 := blk_lt y0
    have zy1 := blk_lt y1
    have zz0 := blk_lt z0
    have zz1 := blk_lt z1
    have zr0 := blk_lt r0
    have zr1 := blk_lt r1
    have zr2 := blk_lt r2
    go_wp2_with fail
    refine (HI1.out _).mono ?_
    rintro e W2 ⟨rfl, hb⟩
    have hk : Below W1.heap.size W1 W2 := by first | exact hb | exact bl_tr (bl_al (bl0 _) _) hb | exact bl_tr (bl_dr (bl_al (bl0 _) _)) hb | exact bl_tr (bl_al (bl_al (bl0 _) _) _) hb | exact bl_tr (bl_dr (bl_al (bl_al (bl0 _) _) _)) hb | exact bl_tr (bl_al (bl_al (bl_al (bl0 _) _) _) _) hb | exact bl_tr (bl_dr (bl_al (bl_al (bl_al (bl0 _) _) _) _)) hb | exact bl_tr (bl_al (bl_al (bl_al (bl_al (bl0 _) _) _) _) _) hb | exact bl_tr (bl_dr (bl_al (bl_al (bl_al (bl_al (bl0 _) _) _) _) _)) hb | exact bl_tr (bl_al (bl_al (bl_al (bl_al (bl_al (bl0 _) _) _) _) _) _) hb | exact bl_tr (bl_dr (bl_al (bl_al (bl_al (bl_al (bl_al (bl0 _) _) _) _) _) _)) hb | exact bl_tr (bl_al (bl_al (bl_al (bl_al (bl_al (bl_al (bl0 _) _) _) _) _) _) _) hb | exact bl_tr (bl_dr (bl_al (bl_al (bl_al (bl_al (bl_al (bl_al (bl0 _) _) _) _) _) _) _)) hb | exact bl_tr (bl_dr (bl0 _)) hb
    replace hA := bl_tr hA hk
    replace f0 := frozen_later hk r0 f0
    replace f1 := frozen_later hk r1 f1
    replace f2 := frozen_later hk r2 f2
    replace x0 := cell_later hk x0
    replace x1 := cell_later hk x1
    replace x2 := cell_later hk x2
    replace y0 := cell_later hk y0
    replace y1 := cell_later hk y1
    replace z0 := cell_later hk z0
    replace z1 := cell_later hk z1
    replace r0 := cell_later hk r0
    replace r1 := cell_later hk r1
    replace r2 := cell_later hk r2
    clear hb hk
    have zx0 := blk_lt x0
    have zx1 := blk_lt x1
    have zx2 := blk_lt x2
    have zy0 := blk_lt y0
    have zy1 := blk_lt y1
    have zz0 := blk_lt z0
    have zz1 := blk_lt z1
    have zr0 := blk_lt r0
    have zr1 := blk_lt r1
    have zr2 := blk_lt r2
    go_wp2_with fail
    refine (HI2.out _).mono ?_
    rintro e W3 ⟨rfl, hb⟩
    have hk : Below W2.heap.size W2 W3 := by first | exact hb | exact bl_tr (bl_al (bl0 _) _) hb | exact bl_tr (bl_dr (bl_al (bl0 _) _)) hb | exact bl_tr (bl_al (bl_al (bl0 _) _) _) hb | exact bl_tr (bl_dr (bl_al (bl_al (bl0 _) _) _)) hb | exact bl_tr (bl_al (bl_al (bl_al (bl0 _) _) _) _) hb | exact bl_tr (bl_dr (bl_al (bl_al (bl_al (bl0 _) _) _) _)) hb | exact bl_tr (bl_al (bl_al (bl_al (bl_al (bl0 _) _) _) _) _) hb | exact bl_tr (bl_dr (bl_al (bl_al (bl_al (bl_al (bl0 _) _) _) _) _)) hb | exact bl_tr (bl_al (bl_al (bl_al (bl_al (bl_al (bl0 _) _) _) _) _) _) hb | exact bl_tr (bl_dr (bl_al (bl_al (bl_al (bl_al (bl_al (bl0 _) _) _) _) _) _)) hb | exact bl_tr (bl_al (bl_al (bl_al (bl_al (bl_al (bl_al (bl0 _) _) _) _) _) _) _) hb | exact bl_tr (bl_dr (bl_al (bl_al (bl_al (bl_al (bl_al (bl_al (bl0 _) _) _) _) _) _) _)) hb | exact bl_tr (bl_dr (bl0 _)) hb
    replace hA := bl_tr hA hk
    replace f0 := frozen_later hk r0 f0
    replace f1 := frozen_later hk r1 f1
    replace f2 := frozen_later hk r2 f2
    replace x0 := cell_later hk x0
    replace x1 := cell_later hk x1
    replace x2 := cell_later hk x2
    replace y0 := cell_later hk y0
    replace y1 := cell_later hk y1
    replace z0 := cell_later hk z0
    replace z1 := cell_later hk z1
    replace r0 := cell_later hk r0
    replace r1 := cell_later hk r1
    replace r2 := cell_later hk r2
    clear hb hk
    have zx0 := blk_lt x0
    have zx1 := blk_lt x1
    have zx2 := blk_lt x2
    have zy0 := blk_lt y0
    have zy1 := blk_lt y1
    have zz0 := blk_lt z0
    have zz1 := blk_lt z1
    have zr0 := blk_lt r0
    have zr1 := blk_lt r1
    have zr2 := blk_lt r2
    go_wp2_with fail
    refine (HC1.out _ (HRH.out _ hA)).mono ?_
    rintro e W4 ⟨rfl, hb⟩
    have hk : Below W3.heap.size W3 W4 := by first | exact hb | exact bl_tr (bl_al (bl0 _) _) hb | exact bl_tr (bl_dr (bl_al (bl0 _) _)) hb | exact bl_tr (bl_al (bl_al (bl0 _) _) _) hb | exact bl_tr (bl_dr (bl_al (bl_al (bl0 _) _) _)) hb | exact bl_tr (bl_al (bl_al (bl_al (bl0 _) _) _) _) hb | exact bl_tr (bl_dr (bl_al (bl_al (bl_al (bl0 _) _) _) _)) hb | exact bl_tr (bl_al (bl_al (bl_al (bl_al (bl0 _) _) _) _) _) hb | exact bl_tr (bl_dr (bl_al (bl_al (bl_al (bl_al (bl0 _) _) _) _) _)) hb | exact bl_tr (bl_al (bl_al (bl_al (bl_al (bl_al (bl0 _) _) _) _) _) _) hb | exact bl_tr (bl_dr (bl_al (bl_al (bl_al (bl_al (bl_al (bl0 _) _) _) _) _) _)) hb | exact bl_tr (bl_al (bl_al (bl_al (bl_al (bl_al (bl_al (bl0 _) _) _) _) _) _) _) hb | exact bl_tr (bl_dr (bl_al (bl_al (bl_al (bl_al (bl_al (bl_al (bl0 _) _) _) _) _) _) _)) hb | exact bl_tr (bl_dr (bl0 _)) hb
    replace hA := bl_tr hA hk
    replace f0 := frozen_later hk r0 f0
    replace f1 := frozen_later hk r1 f1
    replace f2 := frozen_later hk r2 f2
    replace x0 := cell_later hk x0
    replace x1 := cell_later hk x1
    replace x2 := cell_later hk x2
    replace y0 := cell_later hk y0
    replace y1 := cell_later hk y1
    replace z0 := cell_later hk z0
    replace z1 := cell_later hk z1
    replace r0 := cell_later hk r0
    replace r1 := cell_later hk r1
    replace r2 := cell_later hk r2
    clear hb hk
    have zx0 := blk_lt x0
    have zx1 := blk_lt x1
    have zx2 := blk_lt x2
    have zy0 := blk_lt y0
    have zy1 := blk_lt y1
    have zz0 := blk_lt z0
    have zz1 := blk_lt z1
    have zr0 := blk_lt r0
    have zr1 := blk_lt r1
    have zr2 := blk_lt r2
    go_wp2
    refine bodyPost_ret (v := .tuple #[.agg #[.slice none 0 0, .int .u64 0, .int .i64 0], .int .i64 22]) (by simp [results, Tryd.results11, go_sem, r0, r1, r2]) rfl ⟨findR_wall HE.out (.inl HK.out), ?_⟩
    exact bl_st (bl_st (bl_st hA (by omega) _) (by omega) _) (by omega) _
  case neg =>
  have k1b : (zs.getD (numN A F) 0 == (0 : Int)) = false := by rw [beq_eq_false_iff_ne]; exact k1
  by_cases k2 : zs.getD (numN A T) 0 = 0
  case pos =>
    rw [k2] at HC2
    have HK := Lib.hid k2
    clear hF hT hc k1 k2
    generalize zs.getD (numN A F) 0 = kF at *
    go_enter Tryd.func11, Tryd.ntmps11
    go_wp2_with fail
    refine (HCK.out _).mono ?_
    rintro e W1 ⟨rfl, hb⟩
    have hk : Below w.heap.size w W1 := by first | exact hb | exact bl_tr (bl_al (bl0 _) _) hb | exact bl_tr (bl_dr (bl_al (bl0 _) _)) hb | exact bl_tr (bl_al (bl_al (bl0 _) _) _) hb | exact bl_tr (bl_dr (bl_al (bl_al (bl0 _) _) _)) hb | exact bl_tr (bl_al (bl_al (bl_al (bl0 _) _) _) _) hb | exact bl_tr (bl_dr (bl_al (bl_al (bl_al (bl0 _) _) _) _)) hb | exact bl_tr (bl_al (bl_al (bl_al (bl_al (bl0 _) _) _) _) _) hb | exact bl_tr (bl_dr (bl_al (bl_al (bl_al (bl_al (bl0 _) _) _) _) _)) hb | exact bl_tr (bl_al (bl_al (bl_al (bl_al (bl_al (bl0 _) _) _) _) _) _) hb | exact bl_tr (bl_dr (bl_al (bl_al (bl_al (bl_al (bl_al (bl0 _) _) _) _) _) _)) hb | exact bl_tr (bl_al (bl_al (bl_al (bl_al (bl_al (bl_al (bl0 _) _) _) _) _) _) _) hb | exact bl_tr (bl_dr (bl_al (bl_al (bl_al (bl_al (bl_al (bl_al (bl0 _) _) _) _) _) _) _)) hb | exact bl_tr (bl_dr (bl0 _)) hb
    replace hA := bl_tr hA hk
    have x0 := cell_later hb (v := .int .i64 A) (a := ⟨w.heap.size, 0, none⟩) (by simp [go_sem])
    have x1 := cell_later hb (v := .int .i64 H) (a := ⟨w.heap.size, 1, none⟩) (by simp [go_sem])
    have x2 := cell_later hb (v := .slice a zs.length cap) (a := ⟨w.heap.size, 2, none⟩) (by simp [go_sem])
    have y0 := cell_later hb (v := .int .i64 F.1) (a := ⟨w.heap.size + 1, 0, none⟩) (by simp [go_sem])
    have y1 := cell_later hb (v := .int .i64 F.2) (a := ⟨w.heap.size + 1, 1, none⟩) (by simp [go_sem])
    have z0 := cell_later hb (v := .int .i64 T.1) (a := ⟨w.heap.size + 1 + 1, 0, none⟩) (by simp [go_sem])
    have z1 := cell_later hb (v := .int .i64 T.2) (a := ⟨w.heap.size + 1 + 1, 1, none⟩) (by simp [go_sem])
    have r0 := cell_later hb (v := .slice none 0 0) (a := ⟨w.heap.size + 1 + 1 + 1, 0, none⟩) (by simp [go_sem])
    have r1 := cell_later hb (v := .int .u64 0) (a := ⟨w.heap.size + 1 + 1 + 1, 1, none⟩) (by simp [go_sem])
    have r2 := cell_later hb (v := .int .i64 0) (a := ⟨w.heap.size + 1 + 1 + 1, 2, none⟩) (by simp [go_sem])
    have f0 : W1.frozen? ⟨w.heap.size + 1 + 1 + 1, 0, none⟩ = false := (hb.frozen (p := ⟨w.heap.size + 1 + 1 + 1, 0, none⟩) (by simp <;> omega)).trans (by simp [go_sem])
    have f1 : W1.frozen? ⟨w.heap.size + 1 + 1 + 1, 1, none⟩ = false := (hb.frozen (p := ⟨w.heap.size + 1 + 1 + 1, 1, none⟩) (by simp <;> omega)).trans (by simp [go_sem])
    have f2 : W1.frozen? ⟨w.heap.size + 1 + 1 + 1, 2, none⟩ = false := (hb.frozen (p := ⟨w.heap.size + 1 + 1 + 1, 2, none⟩) (by simp <;> omega)).trans (by simp [go_sem])
    clear hb hk
    have zx0 := blk_lt x0
    have zx1 := blk_lt x1
    have zx2 := blk_lt x2
    have zy0 := blk_lt y0
    have zy1 := blk_lt y1
    have zz0 := blk_lt z0
    have zz1 := blk_lt z1
    have zr0 := blk_lt r0
    have zr1 := blk_lt r1
    have zr2 := blk_lt r2
    go_wp2_with fail
    refine (HI1.out _).mono ?_
    rintro e W2 ⟨rfl, hb⟩
    have hk : Below W1.heap.size W1 W2 := by first | exact hb | exact bl_tr (bl_al (bl0 _) _) hb | exact bl_tr (bl_dr (bl_al (bl0 _) _)) hb | exact bl_tr (bl_al (bl_al (bl0 _) _) _) hb | exact bl_tr (bl_dr (bl_al (bl_al (bl0 _) _) _)) hb | exact bl_tr (bl_al (bl_al (bl_al (bl0 _) _) _) _) hb | exact bl_tr (bl_dr (bl_al (bl_al (bl_al (bl0 _) _) _) _)) hb | exact bl_tr (bl_al (bl_al (bl_al (bl_al (bl0 _) _) _) _) _) hb | exact bl_tr (bl_dr (bl_al (bl_al (bl_al (bl_al (bl0 _) _) _) _) _)) hb | exact bl_tr (bl_al (bl_al (bl_al (bl_al (bl_al (bl0 _) _) _) _) _) _) hb | exact bl_tr (bl_dr (bl_al (bl_al (bl_al (bl_al (bl_al (bl0 _) _) _) _) _) _)) hb | exact bl_tr (bl_al (bl_al (bl_al (bl_al (bl_al (bl_al (bl0 _) _) _) _) _) _) _) hb | exact bl_tr (bl_dr (bl_al (bl_al (bl_al (bl_al (bl_al (bl_al (bl0 _) _) _) _) _) _) _)) hb | exact bl_tr (bl_dr (bl0 _)) hb
    replace hA := bl_tr hA hk
    replace f0 := frozen_later hk r0 f0
    replace f1 := frozen_later hk r1 f1
    replace f2 := frozen_later hk r2 f2
    replace x0 := cell_later hk x0
    replace x1 := cell_later hk x1
    replace x2 := cell_later hk x2
    replace y0 := cell_later hk y0
    replace y1 := cell_later hk y1
    replace z0 := cell_later hk z0
    replace z1 := cell_later hk z1
    replace r0 := cell_later hk r0
    replace r1 := cell_later hk r1
    replace r2 := cell_later hk r2
    clear hb hk
    have zx0 := blk_lt x0
    have zx1 := blk_lt x1
    have zx2 := blk_lt x2
    have zy0 := blk_lt y0
    have zy1 := blk_lt y1
    have zz0 := blk_lt z0
    have zz1 := blk_lt z1
    have zr0 := blk_lt r0
    have zr1 := blk_lt r1
    have zr2 := blk_lt r2
    go_wp2_with fail
    refine (HI2.out _).mono ?_
    rintro e W3 ⟨rfl, hb⟩
    have hk : Below W2.heap.size W2 W3 := by first | exact hb | exact bl_tr (bl_al (bl0 _) _) hb | exact bl_tr (bl_dr (bl_al (bl0 _) _)) hb | exact bl_tr (bl_al (bl_al (bl0 _) _) _) hb | exact bl_tr (bl_dr (bl_al (bl_al (bl0 _) _) _)) hb | exact bl_tr (bl_al (bl_al (bl_al (bl0 _) _) _) _) hb | exact bl_tr (bl_dr (bl_al (bl_al (bl_al (bl0 _) _) _) _)) hb | exact bl_tr (bl_al (bl_al (bl_al (bl_al (bl0 _) _) _) _) _) hb | exact bl_tr (bl_dr (bl_al (bl_al (bl_al (bl_al (bl0 _) _) _) _) _)) hb | exact bl_tr (bl_al (bl_al (bl_al (bl_al (bl_al (bl0 _) _) _) _) _) _) hb | exact bl_tr (bl_dr (bl_al (bl_al (bl_al (bl_al (bl_al (bl0 _) _) _) _) _) _)) hb | exact bl_tr (bl_al (bl_al (bl_al (bl_al (bl_al (bl_al (bl0 _) _) _) _) _) _) _) hb | exact bl_tr (bl_dr (bl_al (bl_al (bl_al (bl_al (bl_al (bl_al (bl0 _) _) _) _) _) _) _)) hb | exact bl_tr (bl_dr (bl0 _)) hb
    replace hA := bl_tr hA hk
    replace f0 := frozen_later hk r0 f0
    replace f1 := frozen_later hk r1 f1
    replace f2 := frozen_later hk r2 f2
    replace x0 := cell_later hk x0
    replace x1 := cell_later hk x1
    replace x2 := cell_later hk x2
    replace y0 := cell_later hk y0
    replace y1 := cell_later hk y1
    replace z0 := cell_later hk z0
    replace z1 := cell_later hk z1
    replace r0 := cell_later hk r0
    replace r1 := cell_later hk r1
    replace r2 := cell_later hk r2
    clear hb hk
    have zx0 := blk_lt x0
    have zx1 := blk_lt x1
    have zx2 := blk_lt x2
    have zy0 := blk_lt y0
    have zy1 := blk_lt y1
    have zz0 := blk_lt z0
    have zz1 := blk_lt z1
    have zr0 := blk_lt r0
    have zr1 := blk_lt r1
    have zr2 := blk_lt r2
    go_wp2_with fail
    refine (HC1.out _ (HRH.out _ hA)).mono ?_
    rintro e W4 ⟨rfl, hb⟩
    have hk : Below W3.heap.size W3 W4 := by first | exact hb | exact bl_tr (bl_al (bl0 _) _) hb | exact bl_tr (bl_dr (bl_al (bl0 _) _)) hb | exact bl_tr (bl_al (bl_al (bl0 _) _) _) hb | exact bl_tr (bl_dr (bl_al (bl_al (bl0 _) _) _)) hb | exact bl_tr (bl_al (bl_al (bl_al (bl0 _) _) _) _) hb | exact bl_tr (bl_dr (bl_al (bl_al (bl_al (bl0 _) _) _) _)) hb | exact bl_tr (bl_al (bl_al (bl_al (bl_al (bl0 _) _) _) _) _) hb | exact bl_tr (bl_dr (bl_al (bl_al (bl_al (bl_al (bl0 _) _) _) _) _)) hb | exact bl_tr (bl_al (bl_al (bl_al (bl_al (bl_al (bl0 _) _) _) _) _) _) hb | exact bl_tr (bl_dr (bl_al (bl_al (bl_al (bl_al (bl_al (bl0 _) _) _) _) _) _)) hb | exact bl_tr (bl_al (bl_al (bl_al (bl_al (bl_al (bl_al (bl0 _) _) _) _) _) _) _) hb | exact bl_tr (bl_dr (bl_al (bl_al (bl_al (bl_al (bl_al (bl_al (bl0 _) _) _) _) _) _) _)) hb | exact bl_tr (bl_dr (bl0 _)) hb
    replace hA := bl_tr hA hk
    replace f0 := frozen_later hk r0 f0
    replace f1 := frozen_later hk r1 f1
    replace f2 := frozen_later hk r2 f2
    replace x0 := cell_later hk x0
    replace x1 := cell_later hk x1
    replace x2 := cell_later hk x2
    replace y0 := cell_later hk y0
    replace y1 := cell_later hk y1
    replace z0 := cell_later hk z0
    replace z1 := cell_later hk z1
    replace r0 := cell_later hk r0
    replace r1 := cell_later hk r1
    replace r2 := cell_later hk r2
    clear hb hk
    have zx0 := blk_lt x0
    have zx1 := blk_lt x1
    have zx2 := blk_lt x2
    have zy0 := blk_lt y0
    have zy1 := blk_lt y1
    have zz0 := blk_lt z0
    have zz1 := blk_lt z1
    have zr0 := blk_lt r0
    have zr1 := blk_lt r1
    have zr2 := blk_lt r2
    go_wp2_with fail
    refine (HC2.out _ (HRH.out _ hA)).mono ?_
    rintro e W5 ⟨rfl, hb⟩
    have hk : Below W4.heap.size W4 W5 := by first | exact hb | exact bl_tr (bl_al (bl0 _) _) hb | exact bl_tr (bl_dr (bl_al (bl0 _) _)) hb | exact bl_tr (bl_al (bl_al (bl0 _) _) _) hb | exact bl_tr (bl_dr (bl_al (bl_al (bl0 _) _) _)) hb | exact bl_tr (bl_al (bl_al (bl_al (bl0 _) _) _) _) hb | exact bl_tr (bl_dr (bl_al (bl_al (bl_al (bl0 _) _) _) _)) hb | exact bl_tr (bl_al (bl_al (bl_al (bl_al (bl0 _) _) _) _) _) hb | exact bl_tr (bl_dr (bl_al (bl_al (bl_al (bl_al (bl0 _) _) _) _) _)) hb | exact bl_tr (bl_al (bl_al (bl_al (bl_al (bl_al (bl0 _) _) _) _) _) _) hb | exact bl_tr (bl_dr (bl_al (bl_al (bl_al (bl_al (bl_al (bl0 _) _) _) _) _) _)) hb | exact bl_tr (bl_al (bl_al (bl_al (bl_al (bl_al (bl_al (bl0 _) _) _) _) _) _) _) hb | exact bl_tr (bl_dr (bl_al (bl_al (bl_al (bl_al (bl_al (bl_al (bl0 _) _) _) _) _) _) _)) hb | exact bl_tr (bl_dr (bl0 _)) hb
    replace hA := bl_tr hA hk
    replace f0 := frozen_later hk r0 f0
    replace f1 := frozen_later hk r1 f1
    replace f2 := frozen_later hk r2 f2
    replace x0 := cell_later hk x0
    replace x1 := cell_later hk x1
    replace x2 := cell_later hk x2
    replace y0 := cell_later hk y0
    replace y1 := cell_later hk y1
    replace z0 := cell_later hk z0
    replace z1 := cell_later hk z1
    replace r0 := cell_later hk r0
    replace r1 := cell_later hk r1
    replace r2 := cell_later hk r2
    clear hb hk
    have zx0 := blk_lt x0
    have zx1 := blk_lt x1
    have zx2 := blk_lt x2
    have zy0 := blk_lt y0
    have zy1 := blk_lt y1
    have zz0 := blk_lt z0
    have zz1 := blk_lt z1
    have zr0 := blk_lt r0
    have zr1 := blk_lt r1
    have zr2 := blk_lt r2
    go_wp2
    refine bodyPost_ret (v := .tuple #[.agg #[.slice none 0 0, .int .u64 0, .int .i64 0], .int .i64 22]) (by simp [results, Tryd.results11, go_sem, r0, r1, r2]) rfl ⟨findR_wall HE.out (.inr HK.out), ?_⟩
    exact bl_st (bl_st (bl_st hA (by omega) _) (by omega) _) (by omega) _
  case neg =>
  have k2b : (zs.getD (numN A T) 0 == (0 : Int)) = false := by rw [beq_eq_false_iff_ne]; exact k2
  obtain ⟨d, hd⟩ := HFR.out HE.out
  obtain ⟨s0, hs0⟩ : ∃ s0, numN A F = s0 := ⟨_, rfl⟩
  obtain ⟨gl, hgl⟩ : ∃ gl, numN A T = gl := ⟨_, rfl⟩
  have eF : F = cellN A s0 := by rw [← hs0]; exact (cellN_num hF).symm
  have eT : T = cellN A gl := by rw [← hgl]; exact (cellN_num hT).symm
  have b1 : (s0 : Int) < A * H := by have := numN_int hF; omega
  have b2 : (gl : Int) < A * H := by have := numN_int hT; omega
  rw [hs0] at HC1 k1b k1 hd
  rw [hgl] at HC2 k2b k2
  have HPO := Lib.hid (show ∀ e W, SearchR A H zs s0 gl budget w.heap.size e W → FindR A H zs F T budget w.heap.size e W from fun e W h => by
    refine ⟨fun q => absurd HE.out q, fun _ => ⟨fun q => ?_, fun _ => ?_⟩⟩
    · rw [hs0, hgl] at q
      rcases q with q | q
      · exact absurd q k1
      · exact absurd q k2
    · rw [hs0, hgl]
      exact h)
  have HSE := Lib.hid (fun W h h2 => ssearch_any A H a cap zs s0 gl budget d W h hz h2 hm hn b1 b2 hd k1)
  have HST := Lib.hid (fun W (h : Below w.heap.size w W) => hst.below h)
  rw [← eF, ← eT] at HSE
  clear hF hT hc k1 k2 hs0 hgl eF eT b1 b2 hd hm hn
  generalize zs.getD s0 0 = kF at *
  generalize zs.getD gl 0 = kT at *
  go_enter Tryd.func11, Tryd.ntmps11
  go_wp2_with fail
  refine (HCK.out _).mono ?_
  rintro e W1 ⟨rfl, hb⟩
  have hk : Below w.heap.size w W1 := by first | exact hb | exact bl_tr (bl_al (bl0 _) _) hb | exact bl_tr (bl_dr (bl_al (bl0 _) _)) hb | exact bl_tr (bl_al (bl_al (bl0 _) _) _) hb | exact bl_tr (bl_dr (bl_al (bl_al (bl0 _) _) _)) hb | exact bl_tr (bl_al (bl_al (bl_al (bl0 _) _) _) _) hb | exact bl_tr (bl_dr (bl_al (bl_al (bl_al (bl0 _) _) _) _)) hb | exact bl_tr (bl_al (bl_al (bl_al (bl_al (bl0 _) _) _) _) _) hb | exact bl_tr (bl_dr (bl_al (bl_al (bl_al (bl_al (bl0 _) _) _) _) _)) hb | exact bl_tr (bl_al (bl_al (bl_al (bl_al (bl_al (bl0 _) _) _) _) _) _) hb | exact bl_tr (bl_dr (bl_al (bl_al (bl_al (bl_al (bl_al (bl0 _) _) _) _) _) _)) hb | exact bl_tr (bl_al (bl_al (bl_al (bl_al (bl_al (bl_al (bl0 _) _) _) _) _) _) _) hb | exact bl_tr (bl_dr (bl_al (bl_al (bl_al (bl_al (bl_al (bl_al (bl0 _) _) _) _) _) _) _)) hb | exact bl_tr (bl_dr (bl0 _)) hb
  replace hA := bl_tr hA hk
  have x0 := cell_later hb (v := .int .i64 A) (a := ⟨w.heap.size, 0, none⟩) (by simp [go_sem])
  have x1 := cell_later hb (v := .int .i64 H) (a := ⟨w.heap.size, 1, none⟩) (by simp [go_sem])
  have x2 := cell_later hb (v := .slice a zs.length cap) (a := ⟨w.heap.size, 2, none⟩) (by simp [go_sem])
  have y0 := cell_later hb (v := .int .i64 F.1) (a := ⟨w.heap.size + 1, 0, none⟩) (by simp [go_sem])
  have y1 := cell_later hb (v := .int .i64 F.2) (a := ⟨w.heap.size + 1, 1, none⟩) (by simp [go_sem])
  have z0 := cell_later hb (v := .int .i64 T.1) (a := ⟨w.heap.size + 1 + 1, 0, none⟩) (by simp [go_sem])
  have z1 := cell_later hb (v := .int .i64 T.2) (a := ⟨w.heap.size + 1 + 1, 1, none⟩) (by simp [go_sem])
  have r0 := cell_later hb (v := .slice none 0 0) (a := ⟨w.heap.size + 1 + 1 + 1, 0, none⟩) (by simp [go_sem])
  have r1 := cell_later hb (v := .int .u64 0) (a := ⟨w.heap.size + 1 + 1 + 1, 1, none⟩) (by simp [go_sem])
  have r2 := cell_later hb (v := .int .i64 0) (a := ⟨w.heap.size + 1 + 1 + 1, 2, none⟩) (by simp [go_sem])
  have f0 : W1.frozen? ⟨w.heap.size + 1 + 1 + 1, 0, none⟩ = false := (hb.frozen (p := ⟨w.heap.size + 1 + 1 + 1, 0, none⟩) (by simp <;> omega)).trans (by simp [go_sem])
  have f1 : W1.frozen? ⟨w.heap.size + 1 + 1 + 1, 1, none⟩ = false := (hb.frozen (p := ⟨w.heap.size + 1 + 1 + 1, 1, none⟩) (by simp <;> omega)).trans (by simp [go_sem])
  have f2 : W1.frozen? ⟨w.heap.size + 1 + 1 + 1, 2, none⟩ = false := (hb.frozen (p := ⟨w.heap.size + 1 + 1 + 1, 2, none⟩) (by simp <;> omega)).trans (by simp [go_sem])
  clear hb hk
  have zx0 := blk_lt x0
  have zx1 := blk_lt x1
  have zx2 := blk_lt x2
  have zy0 := blk_lt y0
  have zy1 := blk_lt y1
  have zz0 := blk_lt z0
  have zz1 := blk_lt z1
  have zr0 := blk_lt r0
  have zr1 := blk_lt r1
  have zr2 := blk_lt r2
  go_wp2_with fail
  refine (HI1.out _).mono ?_
  rintro e W2 ⟨rfl, hb⟩
  have hk : Below W1.heap.size W1 W2 := by first | exact hb | exact bl_tr (bl_al (bl0 _) _) hb | exact bl_tr (bl_dr (bl_al (bl0 _) _)) hb | exact bl_tr (bl_al (bl_al (bl0 _) _) _) hb | exact bl_tr (bl_dr (bl_al (bl_al (bl0 _) _) _)) hb | exact bl_tr (bl_al (bl_al (bl_al (bl0 _) _) _) _) hb | exact bl_tr (bl_dr (bl_al (bl_al (bl_al (bl0 _) _) _) _)) hb | exact bl_tr (bl_al (bl_al (bl_al (bl_al (bl0 _) _) _) _) _) hb | exact bl_tr (bl_dr (bl_al (bl_al (bl_al (bl_al (bl0 _) _) _) _) _)) hb | exact bl_tr (bl_al (bl_al (bl_al (bl_al (bl_al (bl0 _) _) _) _) _) _) hb | exact bl_tr (bl_dr (bl_al (bl_al (bl_al (bl_al (bl_al (bl0 _) _) _) _) _) _)) hb | exact bl_tr (bl_al (bl_al (bl_al (bl_al (bl_al (bl_al (bl0 _) _) _) _) _) _) _) hb | exact bl_tr (bl_dr (bl_al (bl_al (bl_al (bl_al (bl_al (bl_al (bl0 _) _) _) _) _) _) _)) hb | exact bl_tr (bl_dr (bl0 _)) hb
  replace hA := bl_tr hA hk
  replace f0 := frozen_later hk r0 f0
  replace f1 := frozen_later hk r1 f1
  replace f2 := frozen_later hk r2 f2
  replace x0 := cell_later hk x0
  replace x1 := cell_later hk x1
  replace x2 := cell_later hk x2
  replace y0 := cell_later hk y0
  replace y1 := cell_later hk y1
  replace z0 := cell_later hk z0
  replace z1 := cell_later hk z1
  replace r0 := cell_later hk r0
  replace r1 := cell_later hk r1
  replace r2 := cell_later hk r2
  clear hb hk
  have zx0 := blk_lt x0
  have zx1 := blk_lt x1
  have zx2 := blk_lt x2
  have zy0 := blk_lt y0
  have zy1 := blk_lt y1
  have zz0 := blk_lt z0
  have zz1 := blk_lt z1
  have zr0 := blk_lt r0
  have zr1 := blk_lt r1
  have zr2 := blk_lt r2
  go_wp2_with fail
  refine (HI2.out _).mono ?_
  rintro e W3 ⟨rfl, hb⟩
  have hk : Below W2.heap.size W2 W3 := by first | exact hb | exact bl_tr (bl_al (bl0 _) _) hb | exact bl_tr (bl_dr (bl_al (bl0 _) _)) hb | exact bl_tr (bl_al (bl_al (bl0 _) _) _) hb | exact bl_tr (bl_dr (bl_al (bl_al (bl0 _) _) _)) hb | exact bl_tr (bl_al (bl_al (bl_al (bl0 _) _) _) _) hb | exact bl_tr (bl_dr (bl_al (bl_al (bl_al (bl0 _) _) _) _)) hb | exact bl_tr (bl_al (bl_al (bl_al (bl_al (bl0 _) _) _) _) _) hb | exact bl_tr (bl_dr (bl_al (bl_al (bl_al (bl_al (bl0 _) _) _) _) _)) hb | exact bl_tr (bl_al (bl_al (bl_al (bl_al (bl_al (bl0 _) _) _) _) _) _) hb | exact bl_tr (bl_dr (bl_al (bl_al (bl_al (bl_al (bl_al (bl0 _) _) _) _) _) _)) hb | exact bl_tr (bl_al (bl_al (bl_al (bl_al (bl_al (bl_al (bl0 _) _) _) _) _) _) _) hb | exact bl_tr (bl_dr (bl_al (bl_al (bl_al (bl_al (bl_al (bl_al (bl0 _) _) _) _) _) _) _)) hb | exact bl_tr (bl_dr (bl0 _)) hb
  replace hA := bl_tr hA hk
  replace f0 := frozen_later hk r0 f0
  replace f1 := frozen_later hk r1 f1
  replace f2 := frozen_later hk r2 f2
  replace x0 := cell_later hk x0
  replace x1 := cell_later hk x1
  replace x2 := cell_later hk x2
  replace y0 := cell_later hk y0
  replace y1 := cell_later hk y1
  replace z0 := cell_later hk z0
  replace z1 := cell_later hk z1
  replace r0 := cell_later hk r0
  replace r1 := cell_later hk r1
  replace r2 := cell_later hk r2
  clear hb hk
  have zx0 := blk_lt x0
  have zx1 := blk_lt x1
  have zx2 := blk_lt x2
  have zy0 := blk_lt y0
  have zy1 := blk_lt y1
  have zz0 := blk_lt z0
  have zz1 := blk_lt z1
  have zr0 := blk_lt r0
  have zr1 := blk_lt r1
  have zr2 := blk_lt r2
  go_wp2_with fail
  refine (HC1.out _ (HRH.out _ hA)).mono ?_
  rintro e W4 ⟨rfl, hb⟩
  have hk : Below W3.heap.size W3 W4 := by first | exact hb | exact bl_tr (bl_al (bl0 _) _) hb | exact bl_tr (bl_dr (bl_al (bl0 _) _)) hb | exact bl_tr (bl_al (bl_al (bl0 _) _) _) hb | exact bl_tr (bl_dr (bl_al (bl_al (bl0 _) _) _)) hb | exact bl_tr (bl_al (bl_al (bl_al (bl0 _) _) _) _) hb | exact bl_tr (bl_dr (bl_al (bl_al (bl_al (bl0 _) _) _) _)) hb | exact bl_tr (bl_al (bl_al (bl_al (bl_al (bl0 _) _) _) _) _) hb | exact bl_tr (bl_dr (bl_al (bl_al (bl_al (bl_al (bl0 _) _) _) _) _)) hb | exact bl_tr (bl_al (bl_al (bl_al (bl_al (bl_al (bl0 _) _) _) _) _) _) hb | exact bl_tr (bl_dr (bl_al (bl_al (bl_al (bl_al (bl_al (bl0 _) _) _) _) _) _)) hb | exact bl_tr (bl_al (bl_al (bl_al (bl_al (bl_al (bl_al (bl0 _) _) _) _) _) _) _) hb | exact bl_tr (bl_dr (bl_al (bl_al (bl_al (bl_al (bl_al (bl_al (bl0 _) _) _) _) _) _) _)) hb | exact bl_tr (bl_dr (bl0 _)) hb
  replace hA := bl_tr hA hk
  replace f0 := frozen_later hk r0 f0
  replace f1 := frozen_later hk r1 f1
  replace f2 := frozen_later hk r2 f2
  replace x0 := cell_later hk x0
  replace x1 := cell_later hk x1
  replace x2 := cell_later hk x2
  replace y0 := cell_later hk y0
  replace y1 := cell_later hk y1
  replace z0 := cell_later hk z0
  replace z1 := cell_later hk z1
  replace r0 := cell_later hk r0
  replace r1 := cell_later hk r1
  replace r2 := cell_later hk r2
  clear hb hk
  have zx0 := blk_lt x0
  have zx1 := blk_lt x1
  have zx2 := blk_lt x2
  have zy0 := blk_lt y0
  have zy1 := blk_lt y1
  have zz0 := blk_lt z0
  have zz1 := blk_lt z1
  have zr0 := blk_lt r0
  have zr1 := blk_lt r1
  have zr2 := blk_lt r2
  go_wp2_with fail
  refine (HC2.out _ (HRH.out _ hA)).mono ?_
  rintro e W5 ⟨rfl, hb⟩
  have hk : Below W4.heap.size W4 W5 := by first | exact hb | exact bl_tr (bl_al (bl0 _) _) hb | exact bl_tr (bl_dr (bl_al (bl0 _) _)) hb | exact bl_tr (bl_al (bl_al (bl0 _) _) _) hb | exact bl_tr (bl_dr (bl_al (bl_al (bl0 _) _) _)) hb | exact bl_tr (bl_al (bl_al (bl_al (bl0 _) _) _) _) hb | exact bl_tr (bl_dr (bl_al (bl_al (bl_al (bl0 _) _) _) _)) hb | exact bl_tr (bl_al (bl_al (bl_al (bl_al (bl0 _) _) _) _) _) hb | exact bl_tr (bl_dr (bl_al (bl_al (bl_al (bl_al (bl0 _) _) _) _) _)) hb | exact bl_tr (bl_al (bl_al (bl_al (bl_al (bl_al (bl0 _) _) _) _) _) _) hb | exact bl_tr (bl_dr (bl_al (bl_al (bl_al (bl_al (bl_al (bl0 _) _) _) _) _) _)) hb | exact bl_tr (bl_al (bl_al (bl_al (bl_al (bl_al (bl_al (bl0 _) _) _) _) _) _) _) hb | exact bl_tr (bl_dr (bl_al (bl_al (bl_al (bl_al (bl_al (bl_al (bl0 _) _) _) _) _) _) _)) hb | exact bl_tr (bl_dr (bl0 _)) hb
  replace hA := bl_tr hA hk
  replace f0 := frozen_later hk r0 f0
  replace f1 := frozen_later hk r1 f1
  replace f2 := frozen_later hk r2 f2
  replace x0 := cell_later hk x0
  replace x1 := cell_later hk x1
  replace x2 := cell_later hk x2
  replace y0 := cell_later hk y0
  replace y1 := cell_later hk y1
  replace z0 := cell_later hk z0
  replace z1 := cell_later hk z1
  replace r0 := cell_later hk r0
  replace r1 := cell_later hk r1
  replace r2 := cell_later hk r2
  clear hb hk
  have zx0 := blk_lt x0
  have zx1 := blk_lt x1
  have zx2 := blk_lt x2
  have zy0 := blk_lt y0
  have zy1 := blk_lt y1
  have zz0 := blk_lt z0
  have zz1 := blk_lt z1
  have zr0 := blk_lt r0
  have zr1 := blk_lt r1
  have zr2 := blk_lt r2
  go_wp2_with fail
  refine (HSE.out _ (HRH.out _ hA) (HST.out _ hA)).mono ?_
  rintro e W6 ⟨hse, hb6⟩
  obtain ⟨xa, xn, xc, y, z, E, rfl⟩ := searchR_shape hse
  have hz5 := zr0
  have HP2 := Lib.hid (HPO.out _ _ (searchR_base (searchR_set (searchR_set (searchR_set hse (show w.heap.size + 1 + 1 + 1 < W5.heap.size by omega) 0 (.slice xa xn xc)) (show w.heap.size + 1 + 1 + 1 < W5.heap.size by omega) 1 (.int .u64 y)) (show w.heap.size + 1 + 1 + 1 < W5.heap.size by omega) 2 (.int .i64 z)) hA.size))
  have hb6' := bl_tr hA hb6
  replace f0 := frozen_later hb6 r0 f0
  replace f1 := frozen_later hb6 r1 f1
  replace f2 := frozen_later hb6 r2 f2
  replace r0 := cell_later hb6 r0
  replace r1 := cell_later hb6 r1
  replace r2 := cell_later hb6 r2
  have zr6 := blk_lt r0
  have HB6 := Lib.hid hb6'
  clear hse hb6 hb6' x0 x1 x2 y0 y1 z0 z1 hA
  go_wp2
  refine bodyPost_ret (v := .tuple #[.agg #[.slice xa xn xc, .int .u64 y, .int .i64 z], .int .i64 E]) (by simp [results, Tryd.results11, go_sem, r0, r1, r2]) rfl ⟨HP2.out, ?_⟩
  exact bl_st (bl_st (bl_st HB6.out (by omega) _) (by omega) _) (by omega) _
end Go.Proofs.YtldpajfendkhbaaDoor

/- A search by guess: star.Find, with how far cells are taken from flood's own answer. -/
namespace Go.Proofs.YtldpajfendkhbaaDoor
open Go.RowKit

/-- How far all cells are: it is there. -/
theorem far_ex (A H : Int) (a : Option Addr) (cap : Nat) (zs : List Int) (F : IC) (w : World) (hr : RowH w a zs) (hz : AllH zs) (hst : Stp w) (hc : chkF A H zs.length = 0) (hF : onB A H F = true) : ∃ ds : List Int, ds.length = zs.length ∧ Far (gph A H zs) (numN A F) (atD ds) := by
  have h := from_any A H a cap zs F w hz hr hst
  obtain ⟨hm, hn⟩ := chkF_may hc
  obtain ⟨a1, a2, a3, a4⟩ := mayB_iff.1 hm
  obtain ⟨b1, b2, b3, b4, b5, b6, b7, b8⟩ := inB_iff.1 hF
  have hR : rightB 0 0 A H = true := rightB_iff.2 ⟨by omega, by omega, by omega, by omega, by omega, by omega, by omega, by omega⟩
  have hE : errW A H (zs.length : Nat) (0, 0, A, H) F = 0 := by
    unfold errW
    rw [if_pos hc, if_pos ⟨fitsB_iff.2 ⟨hR, hm, by show 0 < A; omega, by show 0 < H; omega, Int.le_refl _, Int.le_refl _, by show 0 + A ≤ A; omega, by show 0 + H ≤ H; omega⟩, hasB_iff.2 ⟨hR, b5, by show F.1 < 0 + A; omega, b7, by show F.2 < 0 + H; omega⟩⟩]
  obtain ⟨e, w', fr, ⟨⟨_, _, ds, _, _, _, hy⟩, _⟩, _⟩ := h []
  obtain ⟨hl, hfar⟩ := hy hE
  rw [gphB_all hm hn] at hfar
  exact ⟨ds, hl, hfar⟩
theorem sfind_any (A H : Int) (a : Option Addr) (cap : Nat) (zs : List Int) (F T : IC) (budget : Int) (w : World) (hr : RowH w a zs) (hz : AllH zs) (hst : Stp w) :
    Calls Tryd.prog 11 #[.agg #[.int .i64 A, .int .i64 H, .slice a zs.length cap], .agg #[.int .i64 F.1, .int .i64 F.2], .agg #[.int .i64 T.1, .int .i64 T.2], .int .i64 budget] w fun e w' => FindR A H zs F T budget w.heap.size e w' ∧ Below w.heap.size w w' :=
  sfind_far A H a cap zs F T budget w hr hz hst (fun h => by
    obtain ⟨h1, h2, _, _⟩ := errS_ok h
    obtain ⟨ds, _, hd⟩ := far_ex A H a cap zs F w hr hz hst h1 h2
    exact ⟨_, hd⟩)
end Go.Proofs.YtldpajfendkhbaaDoor

/- A search by guess: the laws' helpers; the way that is traced is one alone. -/
namespace Go.Proofs.YtldpajfendkhbaaDoor
open Go.RowKit

theorem take_sameC {xs ys : List (Int × Int)} {k : Nat} (hk : k < xs.length) (hk2 : k < ys.length) (h : xs.take k = ys.take k) (e : xs[k] = ys[k]) : xs.take (k + 1) = ys.take (k + 1) := by
  rw [List.take_succ_eq_append_getElem hk, List.take_succ_eq_append_getElem hk2, h, e]
theorem take_allC {xs ys : List (Int × Int)} {k : Nat} (h1 : xs.length ≤ k) (h2 : xs.length = ys.length) (h : xs.take k = ys.take k) : xs = ys := by
  rw [List.take_of_length_le h1, List.take_of_length_le (by omega)] at h
  exact h
theorem row_lit {W : World} {b : Nat} {cs : Array Value} {t : TypeId} {zs : List Int} (h : W.heap[b]? = some (.cells cs t (0, 0))) (hc : cs = (zs.map (Value.int .u16)).toArray) : RowH W (some ⟨b, 0, none⟩) zs := by
  refine .inr ⟨b, 0, rfl, fun i z hz => ?_⟩
  rw [Nat.zero_add]
  simp only [World.cell?, h, hc]
  simp [hz]
theorem rowC_lit {W : World} {b : Nat} {cs : Array Value} {t : TypeId} {zs : List IC} (h : W.heap[b]? = some (.cells cs t (0, 0))) (hc : cs = (flatC zs).toArray) : RowC W (some ⟨b, 0, none⟩) zs := by
  refine .inr ⟨b, 0, rfl, fun i z hz => ?_⟩
  obtain ⟨e0, e1⟩ := flatC_at zs i z hz
  rw [Nat.zero_add]
  simp only [World.cell?, h, hc]
  simp [e0, e1]

set_option maxHeartbeats 2000000 in
theorem cells10_any (a a2 : Option Addr) (cap cap2 : Nat) (xs ys : List (Int × Int)) (w : World) (hr : RowC w a xs) (hr2 : RowC w a2 ys) (hl : xs.length ≤ 1048576) :
    Calls Tryd.prog 14 #[.slice a xs.length cap, .slice a2 ys.length cap2] w fun e w' => e = .returned (.bool (decide (xs = ys))) ∧ Below w.heap.size w w' := by
  have hl2 : (xs.length : Int) ≤ 1048576 := by omega
  by_cases he : xs.length = ys.length
  · have h1 : ((xs.length : Int) != (ys.length : Int)) = false := by rw [bne_eq_false_iff_eq]; omega
    have HE := Lib.hid he
    clear he
    have hA0 := bl0 w
    go_enter Tryd.func14, Tryd.ntmps14
    go_wp2
    go_loopw [5] (fun i wr => ∃ k : Nat, k ≤ xs.length ∧ i = .int .i64 k ∧ xs.take k = ys.take k ∧ Below w.heap.size w wr) (fun i _ => xs.length - (intOf i).toNat)
    case atStart => exact ⟨0, Nat.zero_le _, rfl, rfl, hA0⟩
    case round =>
      obtain ⟨k, hk, rfl, ht, hB⟩ := hrel
      have HT := Lib.hid ht
      clear hA0 ht
      by_cases hlt : k < xs.length
      · have hlt2 : (k : Int) < (xs.length : Int) := by omega
        have hk0 : (0 : Int) ≤ (k : Int) := by omega
        have hlty : k < ys.length := by rw [← HE.out]; exact hlt
        obtain ⟨gb, go, rfl, q0, q1⟩ := hr.cell hlt
        obtain ⟨gb2, go2, rfl, r0, r1⟩ := hr2.cell hlty
        replace q0 := cell_later hB q0
        replace q1 := cell_later hB q1
        replace r0 := cell_later hB r0
        replace r1 := cell_later hB r1
        have hlty2 : (k : Int) < (ys.length : Int) := by omega
        clear hr hr2
        by_cases hx : xs[k] = ys[k]
        · have HS := Lib.hid (take_sameC hlt hlty HT.out hx)
          rw [← hx] at r0 r1
          clear hx
          generalize xs[k].1 = x at *
          generalize xs[k].2 = y at *
          have b1 := beq_self_eq_true x
          have b2 := beq_self_eq_true y
          go_wp2
          go_quiet (fail)
          go_wp2
          go_roundw
          case rel => exact ⟨k + 1, by omega, by go_num, HS.out, bl_tr hB (bl_drn _ _)⟩
          case measure => simp [intOf]; omega
        · have HS := Lib.hid (show xs ≠ ys by rintro rfl; exact hx rfl)
          by_cases h2 : xs[k].1 = ys[k].1
          · have h3 : (xs[k].2 == ys[k].2) = false := by rw [beq_eq_false_iff_ne]; exact fun e => hx (Prod.ext h2 e)
            rw [← h2] at r0
            clear hx h2
            generalize xs[k].1 = x at *
            generalize xs[k].2 = y at *
            generalize ys[k].2 = y' at *
            have b1 := beq_self_eq_true x
            go_wp2
            go_quiet (fail)
            go_wp2
            go_ret
            exact ⟨ret_bool (by simp [HS.out]), bl_tr hB (bl_drn _ _)⟩
          · have h3 : (xs[k].1 == ys[k].1) = false := by rw [beq_eq_false_iff_ne]; exact h2
            clear hx h2
            generalize xs[k].1 = x at *
            generalize xs[k].2 = y at *
            generalize ys[k].1 = x' at *
            generalize ys[k].2 = y' at *
            go_wp2
            go_quiet (fail)
            go_wp2
            go_ret
            exact ⟨ret_bool (by simp [HS.out]), bl_tr hB (bl_drn _ _)⟩
      · have hge : (xs.length : Int) ≤ (k : Int) := by omega
        have HS := Lib.hid (take_allC (by omega) HE.out HT.out)
        go_wp2
        go_ret
        exact ⟨ret_bool (by simp [HS.out]), hB⟩
  · have h1 : ((xs.length : Int) != (ys.length : Int)) = true := by rw [bne_iff_ne]; omega
    have HE := Lib.hid (show xs ≠ ys from fun e => he (by rw [e]))
    clear he
    go_enter Tryd.func14, Tryd.ntmps14
    go_wp2
    go_ret
    exact ⟨ret_bool (by simp [HE.out]), bl0 _⟩


set_option maxHeartbeats 800000 in
theorem small10_any (A B : Int) (a : Option Addr) (n cap : Nat) (w : World) :
    Calls Tryd.prog 9 #[.agg #[.int .i64 A, .int .i64 B, .slice a n cap]] w fun e w' => e = .returned (.bool (decide (n ≤ 150))) ∧ Below w.heap.size w w' := by
  obtain ⟨t, ht⟩ : ∃ t, decide (n ≤ 150) = t := ⟨_, rfl⟩
  have h1 : decide ((n : Int) ≤ 150) = t := by rw [← ht, decide_eq_decide]; omega
  rw [ht]
  go_enter Tryd.func9, Tryd.ntmps9
  go_wp2
  go_ret
  exact ⟨rfl, bl_al (bl0 _) _⟩
theorem rowC_of {W : World} {Bq n cap g : Nat} {xs : List IC} (h : W.ownsRow Bq 28 2 (.slice (some ⟨g, 0, none⟩) n cap) n (flatC xs)) : RowC W (some ⟨g, 0, none⟩) xs := by
  refine .inr ⟨g, 0, rfl, fun k z hz => ?_⟩
  have := own_cellC h hz
  rw [Nat.zero_add]
  exact this
/-- The way back by parents. -/
def chL (par : Nat → Nat) (s0 : Nat) : Nat → Nat → List Nat
  | 0, _ => []
  | n + 1, x => x :: if x = s0 then [] else chL par s0 n (par x)
theorem chain_suf {G : Gph} {s : AS} {s0 i : Nat} {L : List Nat} (h : ChainA G s s0 i L) : ∀ (n : Nat) (pre suf : List Nat) (x : Nat), L = pre ++ x :: suf → suf.length < n → x :: suf = chL s.par s0 n x
  | 0, _, _, _, _, hn => absurd hn (by omega)
  | n + 1, pre, suf, x, hL, hn => by
    obtain ⟨h1, h2, h3⟩ := h.stp pre.length x (by rw [hL]; simp)
    rw [hL] at h2
    simp only [List.length_append, List.length_cons] at h2
    rw [chL]
    cases suf with
    | nil =>
      have : x = s0 := h2.2 (by simp)
      rw [if_pos this]
    | cons y suf =>
      have hne : ¬ x = s0 := fun q => by have := h2.1 q; simp at this
      rw [if_neg hne]
      obtain ⟨q1, _⟩ := h3 y (by rw [hL]; simp)
      have := chain_suf h n (pre ++ [x]) suf y (by rw [hL]; simp) (by simp at hn; omega)
      rw [this, q1]
theorem chain_is {G : Gph} {s : AS} {s0 i : Nat} {L : List Nat} (h : ChainA G s s0 i L) {n : Nat} (hn : L.length ≤ n) : L = chL s.par s0 n i := by
  obtain ⟨l, rfl⟩ := h.head
  exact chain_suf h n [] l i rfl (by simp only [List.length_cons] at hn; omega)
theorem chain_one {G G' : Gph} {s : AS} {s0 i : Nat} {L L' : List Nat} (h : ChainA G s s0 i L) (h' : ChainA G' s s0 i L') : L = L' := by
  exact (chain_is h (Nat.le_max_left L.length L'.length)).trans (chain_is h' (Nat.le_max_right L.length L'.length)).symm
end Go.Proofs.YtldpajfendkhbaaDoor

/- A search by guess: the chapter's example is as it says. -/
namespace Go.Proofs.YtldpajfendkhbaaDoor
open Go.RowKit

def zA1 : List Int := [1, 1, 1, 1, 1, 1, 1, 1, 1]
def zA2 : List Int := [1, 0, 1, 1, 1, 1, 1, 1, 1]
def rA (zs : List Int) (b : Int) : Int × Nat × AS := runA (fun j => zs.getD j 0) (nbS 3 3 zs) (fun i => guessI (cellN 3 i) (cellN 3 2)) zs.length 2 b (zs.length + 1) 0 (startA 0)
theorem rA1 : (rA zA1 9).1 = 0 ∧ (rA zA1 9).2.1 = 3 ∧ (rA zA1 9).2.2.g 2 = 2 := ⟨by kernel_rfl, by kernel_rfl, by kernel_rfl⟩
theorem rA2 : (rA zA1 2).1 = 23 ∧ (rA zA1 2).2.1 = 2 := ⟨by kernel_rfl, by kernel_rfl⟩
theorem rA3 : (rA zA2 9).1 = 0 ∧ (rA zA2 9).2.1 = 5 ∧ (rA zA2 9).2.2.g 2 = 4 := ⟨by kernel_rfl, by kernel_rfl, by kernel_rfl⟩
theorem rA4 : chL (rA zA2 9).2.2.par 0 9 2 = [2, 5, 4, 3, 0] := by kernel_rfl
theorem zA1_in : AllH zA1 := by
  intro z hz
  simp only [zA1, List.mem_cons, List.not_mem_nil, or_false] at hz
  rcases hz with rfl | rfl | rfl | rfl | rfl | rfl | rfl | rfl | rfl <;> exact ⟨by decide, by decide⟩
theorem zA2_in : AllH zA2 := by
  intro z hz
  simp only [zA2, List.mem_cons, List.not_mem_nil, or_false] at hz
  rcases hz with rfl | rfl | rfl | rfl | rfl | rfl | rfl | rfl | rfl <;> exact ⟨by decide, by decide⟩
theorem find_aw1 (b : Nat) (w : World) (hr : RowH w (some ⟨b, 0, none⟩) zA1) (hst : Stp w) :
    Calls Tryd.prog 11 #[.agg #[.int .i64 3, .int .i64 3, .slice (some ⟨b, 0, none⟩) 9 9], .agg #[.int .i64 0, .int .i64 0], .agg #[.int .i64 2, .int .i64 0], .int .i64 9] w fun e w' => (∃ a n c, e = .returned (.tuple #[.agg #[.slice a n c, .int .u64 2, .int .i64 3], .int .i64 0])) ∧ Below w.heap.size w w' := by
  refine (sfind_any 3 3 (some ⟨b, 0, none⟩) 9 zA1 (0, 0) (2, 0) 9 w hr zA1_in hst).mono ?_
  rintro e w' ⟨⟨_, h2⟩, hb⟩
  obtain ⟨E, M, S', h3, _, h4⟩ := (h2 (by kernel_rfl)).2 (by decide)
  have h5 : rA zA1 9 = (E, M, S') := h3
  have q := rA1
  rw [h5] at q
  obtain ⟨q1, q2, q3⟩ := q
  obtain ⟨L, g, cap, _, _, he, _⟩ := h4 q1
  exact ⟨⟨_, _, _, by rw [he, show M = 3 from q2]; show Ending.returned (.tuple #[.agg #[_, .int .u64 (S'.g 2), _], _]) = _; rw [show S'.g 2 = 2 from q3]; rfl⟩, hb⟩
theorem find_aw2 (b : Nat) (w : World) (hr : RowH w (some ⟨b, 0, none⟩) zA1) (hst : Stp w) :
    Calls Tryd.prog 11 #[.agg #[.int .i64 3, .int .i64 3, .slice (some ⟨b, 0, none⟩) 9 9], .agg #[.int .i64 0, .int .i64 0], .agg #[.int .i64 2, .int .i64 0], .int .i64 2] w fun e w' => e = .returned (.tuple #[.agg #[.slice none 0 0, .int .u64 0, .int .i64 2], .int .i64 23]) ∧ Below w.heap.size w w' := by
  refine (sfind_any 3 3 (some ⟨b, 0, none⟩) 9 zA1 (0, 0) (2, 0) 2 w hr zA1_in hst).mono ?_
  rintro e w' ⟨⟨_, h2⟩, hb⟩
  obtain ⟨E, M, S', h3, h4, _⟩ := (h2 (by kernel_rfl)).2 (by decide)
  have h5 : rA zA1 2 = (E, M, S') := h3
  have q := rA2
  rw [h5] at q
  obtain ⟨q1, q2⟩ := q
  have q1' : E = 23 := q1
  have q2' : M = 2 := q2
  subst q1' q2'
  exact ⟨h4 (by decide), hb⟩
theorem find_aw3 (b : Nat) (w : World) (hr : RowH w (some ⟨b, 0, none⟩) zA2) (hst : Stp w) :
    Calls Tryd.prog 11 #[.agg #[.int .i64 3, .int .i64 3, .slice (some ⟨b, 0, none⟩) 9 9], .agg #[.int .i64 0, .int .i64 0], .agg #[.int .i64 2, .int .i64 0], .int .i64 9] w fun e w' => (∃ a c, e = .returned (.tuple #[.agg #[.slice a 5 c, .int .u64 4, .int .i64 5], .int .i64 0]) ∧ RowC w' a [(0, 0), (0, 1), (1, 1), (2, 1), (2, 0)]) ∧ Below w.heap.size w w' := by
  refine (sfind_any 3 3 (some ⟨b, 0, none⟩) 9 zA2 (0, 0) (2, 0) 9 w hr zA2_in hst).mono ?_
  rintro e w' ⟨⟨_, h2⟩, hb⟩
  obtain ⟨E, M, S', h3, _, h4⟩ := (h2 (by kernel_rfl)).2 (by decide)
  have h5 : rA zA2 9 = (E, M, S') := h3
  have q := rA3
  have q4 := rA4
  rw [h5] at q q4
  obtain ⟨q1, q2, q3⟩ := q
  obtain ⟨L, g, cap, hc, hlt, he, ho⟩ := h4 q1
  have hL : L = [2, 5, 4, 3, 0] := by
    have hl := nodup_lt_len 9 L hc.nd (fun x hx => hlt x hx)
    exact (chain_is hc hl).trans q4
  subst hL
  exact ⟨⟨_, _, by rw [he, show M = 5 from q2]; show Ending.returned (.tuple #[.agg #[_, .int .u64 (S'.g 2), _], _]) = _; rw [show S'.g 2 = 4 from q3]; rfl, rowC_of ho⟩, hb⟩
end Go.Proofs.YtldpajfendkhbaaDoor

/- A search by guess: the laws' example answers true. -/
namespace Go.Proofs.YtldpajfendkhbaaDoor
open Go.RowKit

def oneA : Array Value := #[.int .u16 1, .int .u16 1, .int .u16 1, .int .u16 1, .int .u16 1, .int .u16 1, .int .u16 1, .int .u16 1, .int .u16 1]
set_option maxRecDepth 100000 in
set_option maxHeartbeats 4000000 in
theorem awake10 (w : World) (hst : Stp w) : Calls Tryd.prog 10 #[] w fun e w' => e = .returned (.bool true) ∧ Below w.heap.size w w' := by
  go_enter Tryd.func10, Tryd.ntmps10
  go_wp2_with fail
  obtain ⟨W0, hW0⟩ : ∃ W0, (w.alloc (.cells #[.int .u16 1, .int .u16 1, .int .u16 1, .int .u16 1, .int .u16 1, .int .u16 1, .int .u16 1, .int .u16 1, .int .u16 1] 50)).alloc (.cells #[.int .i64 3, .int .i64 3, .slice (some ⟨w.heap.size, 0, none⟩) 9 9] 26) = W0 := ⟨_, rfl⟩
  have hA : Below w.heap.size w W0 := by rw [← hW0]; exact bl_al (bl_al (bl0 _) _) _
  have hh : W0.heap[w.heap.size]? = some (.cells oneA 50 (0, 0)) := by rw [← hW0]; exact (two_allocs _ _ _).1
  have f0 : W0.cell? ⟨w.heap.size + 1, 0, none⟩ = some (.int .i64 3) := by rw [← hW0]; simp [go_sem]
  have f1 : W0.cell? ⟨w.heap.size + 1, 1, none⟩ = some (.int .i64 3) := by rw [← hW0]; simp [go_sem]
  have f2 : W0.cell? ⟨w.heap.size + 1, 2, none⟩ = some (.slice (some ⟨w.heap.size, 0, none⟩) 9 9) := by rw [← hW0]; simp [go_sem]
  rw [hW0]
  clear hW0
  have zh := (Array.getElem?_eq_some_iff.1 hh).1
  refine (find_aw1 w.heap.size _ (row_lit hh rfl) (hst.below hA)).mono ?_
  rintro e W1 ⟨⟨a1, n1, c1, rfl⟩, hb1⟩
  replace hA := bl_tr hA hb1
  replace hh := (hb1.block _ zh).trans hh
  replace f0 := cell_later hb1 f0
  replace f1 := cell_later hb1 f1
  replace f2 := cell_later hb1 f2
  have zf0 := blk_lt f0
  clear hb1
  go_wp2_with fail
  have hal := bl_al (bl0 W1) (.cells #[.slice a1 n1 c1, .int .u64 2, .int .i64 3] 36)
  obtain ⟨V1, hV1⟩ : ∃ V1, W1.alloc (.cells #[.slice a1 n1 c1, .int .u64 2, .int .i64 3] 36) = V1 := ⟨_, rfl⟩
  have r1 : V1.cell? ⟨W1.heap.size, 1, none⟩ = some (.int .u64 2) := by rw [← hV1]; simp [go_sem]
  have r2 : V1.cell? ⟨W1.heap.size, 2, none⟩ = some (.int .i64 3) := by rw [← hV1]; simp [go_sem]
  rw [hV1] at hal ⊢
  clear hV1
  replace hA := bl_tr hA hal
  replace hh := (hal.block _ (Array.getElem?_eq_some_iff.1 hh).1).trans hh
  replace f0 := cell_later hal f0
  replace f1 := cell_later hal f1
  replace f2 := cell_later hal f2
  clear hal
  refine (find_aw2 w.heap.size _ (row_lit hh rfl) (hst.below hA)).mono ?_
  rintro e W2 ⟨rfl, hb2⟩
  replace hA := bl_tr hA hb2
  replace hh := (hb2.block _ (Array.getElem?_eq_some_iff.1 hh).1).trans hh
  replace f0 := cell_later hb2 f0
  replace f1 := cell_later hb2 f1
  replace f2 := cell_later hb2 f2
  replace r1 := cell_later hb2 r1
  replace r2 := cell_later hb2 r2
  have zr1 := blk_lt r1
  have zf2 := blk_lt f0
  clear hb2
  go_upto_region 4 with fail
  have hal := bl_al (bl0 W2) (.cells #[.slice none 0 0, .int .u64 0, .int .i64 2] 36)
  obtain ⟨V2, hV2⟩ : ∃ V2, W2.alloc (.cells #[.slice none 0 0, .int .u64 0, .int .i64 2] 36) = V2 := ⟨_, rfl⟩
  have s2 : V2.cell? ⟨W2.heap.size, 2, none⟩ = some (.int .i64 2) := by rw [← hV2]; simp [go_sem]
  rw [hV2] at hal ⊢
  clear hV2
  replace hA := bl_tr hA hal
  replace hh := (hal.block _ (Array.getElem?_eq_some_iff.1 hh).1).trans hh
  replace f0 := cell_later hal f0
  replace f1 := cell_later hal f1
  replace f2 := cell_later hal f2
  replace r1 := cell_later hal r1
  replace r2 := cell_later hal r2
  clear hal
  have zf3 := blk_lt f0
  have zr3 := blk_lt r1
  have zs3 := blk_lt s2
  have t0 : V2.cell? ⟨w.heap.size, 1, none⟩ = some (.int .u16 1) := by simp [World.cell?, hh, oneA]
  have t1 : V2.frozen? ⟨w.heap.size, 1, none⟩ = false := by simp [World.frozen?, hh]
  have hset := hset_same V2 w.heap.size 1 _ _ (.int .u16 0) hh
  have hk := KeptS.of_grown (S := fun x => x = w.heap.size) (hgrown_set V2 w.heap.size 1 (.int .u16 0)) (fun x e _ => by cases e; rfl)
  replace hA := bl_st hA (Nat.le_refl _) (.int .u16 0) (o := 1)
  have f0' := hk.cell f0 (by omega)
  have f1' := hk.cell f1 (by omega)
  have f2' := hk.cell f2 (by omega)
  have r1' := hk.cell r1 (by omega)
  have r2' := hk.cell r2 (by omega)
  have s2' := hk.cell s2 (by omega)
  have HA := Lib.hid hA
  clear hA hk
  go_upto_region 5 with fail
  obtain ⟨V3, hV3⟩ : ∃ V3, V2.setCell ⟨w.heap.size, 1, none⟩ (.int .u16 0) = V3 := ⟨_, rfl⟩
  have hA := HA.out
  rw [hV3] at hset f0' f1' f2' r1' r2' s2' hA ⊢
  clear hV3 f0 f1 f2 r1 r2 s2 t0 t1 hh zf0 zf2 zf3 zr1 zr3 zs3 HA
  have zf0 := blk_lt f0'
  have zr1 := blk_lt r1'
  have zs1 := blk_lt s2'
  go_wp2_with fail
  refine (find_aw3 w.heap.size _ (row_lit hset rfl) (hst.below hA)).mono ?_
  rintro e W3 ⟨⟨a3, c3, rfl, hrow⟩, hb3⟩
  replace hA := bl_tr hA hb3
  replace r1' := cell_later hb3 r1'
  replace r2' := cell_later hb3 r2'
  replace s2' := cell_later hb3 s2'
  have zr2 := blk_lt r1'
  have zs2 := blk_lt s2'
  clear hb3 hset f0' f1' f2' zf0
  go_wp2_with fail
  have hl4 : RowC ((W3.alloc (.cells #[.slice a3 5 c3, .int .u64 4, .int .i64 5] 36)).alloc (.cells #[.int .i64 0, .int .i64 0, .int .i64 0, .int .i64 1, .int .i64 1, .int .i64 1, .int .i64 2, .int .i64 1, .int .i64 2, .int .i64 0] 28)) (some ⟨W3.heap.size + 1, 0, none⟩) [(0, 0), (0, 1), (1, 1), (2, 1), (2, 0)] :=
    rowC_lit (by have := heap_alloc_new (W3.alloc (.cells #[.slice a3 5 c3, .int .u64 4, .int .i64 5] 36)) (.cells #[.int .i64 0, .int .i64 0, .int .i64 0, .int .i64 1, .int .i64 1, .int .i64 1, .int .i64 2, .int .i64 1, .int .i64 2, .int .i64 0] 28); rwa [World.size_alloc] at this) rfl
  have hb9 := bl_al (bl_al (bl0 W3) (.cells #[.slice a3 5 c3, .int .u64 4, .int .i64 5] 36)) (.cells #[.int .i64 0, .int .i64 0, .int .i64 0, .int .i64 1, .int .i64 1, .int .i64 1, .int .i64 2, .int .i64 1, .int .i64 2, .int .i64 0] 28)
  have hcall := cells10_any a3 (some ⟨W3.heap.size + 1, 0, none⟩) c3 5 [(0, 0), (0, 1), (1, 1), (2, 1), (2, 0)] [(0, 0), (0, 1), (1, 1), (2, 1), (2, 0)] _ (hrow.below hb9) hl4 (by decide)
  rw [decide_eq_true rfl] at hcall
  try simp only [List.length_cons, List.length_nil, Nat.reduceAdd] at hcall
  refine hcall.mono ?_
  rintro e w4 ⟨rfl, hb4⟩
  have hA5 := bl_tr (bl_tr hA hb9) hb4
  clear hA hl4 hcall hb4 hb9 hrow
  go_wp2_with fail
  go_ret
  exact ⟨rfl, hA5⟩
end Go.Proofs.YtldpajfendkhbaaDoor

/- A search by guess: what star.Find tells, as a function of its arguments. -/
namespace Go.Proofs.YtldpajfendkhbaaDoor
open Go.RowKit Go.Maps

def runT (A H : Int) (zs : List Int) (F T : IC) (budget : Int) : Int × Nat × AS := runA (fun j => zs.getD j 0) (nbS A H zs) (fun i => guessI (cellN A i) (cellN A (numN A T))) zs.length (numN A T) budget (zs.length + 1) 0 (startA (numN A F))
def wallT (A : Int) (zs : List Int) (F T : IC) : Bool := decide (zs.getD (numN A F) 0 = 0 ∨ zs.getD (numN A T) 0 = 0)
def pathT (A : Int) (zs : List Int) (F T : IC) (s : AS) : List IC := (chL s.par (numN A F) zs.length (numN A T)).reverse.map (cellN A)
structure Told where
  E : Int
  P : List IC
  C : Int
  M : Int
/-- What a search tells. -/
def seekT (A H : Int) (zs : List Int) (F T : IC) (budget : Int) : Told :=
  if errS A H zs.length F T budget ≠ 0 then ⟨errS A H zs.length F T budget, [], 0, 0⟩ else
  if wallT A zs F T = true then ⟨22, [], 0, 0⟩ else
  if (runT A H zs F T budget).1 = 0 then ⟨0, pathT A zs F T (runT A H zs F T budget).2.2, (runT A H zs F T budget).2.2.g (numN A T), (runT A H zs F T budget).2.1⟩ else ⟨(runT A H zs F T budget).1, [], 0, (runT A H zs F T budget).2.1⟩
/-- How it is told. -/
def FoundR (B : Nat) (t : Told) (e : Ending) (W : World) : Prop := ∃ pa pc, e = .returned (.tuple #[.agg #[.slice pa t.P.length pc, .int .u64 t.C, .int .i64 t.M], .int .i64 t.E]) ∧ W.ownsRow B 28 2 (.slice pa t.P.length pc) t.P.length (flatC t.P) ∧ t.P.length ≤ 65536
theorem chL_len (par : Nat → Nat) (s0 : Nat) : ∀ n x, (chL par s0 n x).length ≤ n
  | 0, _ => Nat.le_refl _
  | n + 1, x => by
    rw [chL]
    split
    · simp
    · have := chL_len par s0 n (par x)
      simp only [List.length_cons]
      omega
theorem found_of {A H : Int} {zs : List Int} {F T : IC} {budget : Int} {B : Nat} {e : Ending} {W : World} (h : FindR A H zs F T budget B e W) (hm : errS A H zs.length F T budget = 0 → mayB A H = true ∧ (zs.length : Int) = A * H) : FoundR B (seekT A H zs F T budget) e W := by
  obtain ⟨h1, h2⟩ := h
  unfold seekT
  by_cases e0 : errS A H zs.length F T budget = 0
  · rw [if_neg (fun q => q e0)]
    obtain ⟨h3, h4⟩ := h2 e0
    by_cases hw : zs.getD (numN A F) 0 = 0 ∨ zs.getD (numN A T) 0 = 0
    · rw [if_pos (by unfold wallT; exact decide_eq_true hw)]
      exact ⟨none, 0, h3 hw, World.ownsRow_nil _ _ _ _, by simp⟩
    · rw [if_neg (by unfold wallT; rw [decide_eq_false hw]; decide)]
      obtain ⟨E, M, S', h5, h6, h7⟩ := h4 hw
      have h8 : runT A H zs F T budget = (E, M, S') := h5
      rw [h8]
      by_cases hE : E = 0
      · rw [if_pos hE]
        obtain ⟨L, g, cap, hc, hlt, he, ho⟩ := h7 hE
        have hl := nodup_lt_len zs.length L hc.nd hlt
        have hL : L = chL S'.par (numN A F) zs.length (numN A T) := chain_is hc hl
        have hp : pathT A zs F T S' = L.reverse.map (cellN A) := by unfold pathT; rw [← hL]
        refine ⟨some ⟨g, 0, none⟩, cap, ?_, ?_, ?_⟩
        · show e = .returned (.tuple #[.agg #[.slice (some ⟨g, 0, none⟩) (pathT A zs F T S').length cap, .int .u64 (S'.g (numN A T)), .int .i64 (M : Nat)], .int .i64 0])
          rw [he, hp]
          simp
        · show W.ownsRow B 28 2 (.slice (some ⟨g, 0, none⟩) (pathT A zs F T S').length cap) (pathT A zs F T S').length (flatC (pathT A zs F T S'))
          rw [hp, List.length_map, List.length_reverse]
          exact ho
        · show (pathT A zs F T S').length ≤ 65536
          obtain ⟨q1, q2⟩ := hm e0
          have := area_bd q1
          rw [hp, List.length_map, List.length_reverse]
          omega
      · rw [if_neg hE]
        exact ⟨none, 0, h6 hE, World.ownsRow_nil _ _ _ _, by simp⟩
  · rw [if_pos e0]
    exact ⟨none, 0, h1 e0, World.ownsRow_nil _ _ _ _, by simp⟩
theorem sfind_told (A H : Int) (a : Option Addr) (cap : Nat) (zs : List Int) (F T : IC) (budget : Int) (w : World) (hr : RowH w a zs) (hz : AllH zs) (hst : Stp w) :
    Calls Tryd.prog 11 #[.agg #[.int .i64 A, .int .i64 H, .slice a zs.length cap], .agg #[.int .i64 F.1, .int .i64 F.2], .agg #[.int .i64 T.1, .int .i64 T.2], .int .i64 budget] w fun e w' => FoundR w.heap.size (seekT A H zs F T budget) e w' ∧ Below w.heap.size w w' :=
  (sfind_any A H a cap zs F T budget w hr hz hst).mono fun _ _ ⟨h, hb⟩ => ⟨found_of h (fun q => chkF_may (errS_ok q).1), hb⟩
/-- A row of one's own, as a row. -/
theorem own_rowS {W : World} {B n cap : Nat} {pa : Option Addr} {xs : List IC} (h : W.ownsRow B 28 2 (.slice pa n cap) n (flatC xs)) : RowC W pa xs := by
  rcases h.2 with ⟨q, e⟩ | ⟨g', cap', cur, e, _⟩
  · subst e
    have hl := h.1
    have := flatC_len2 xs
    exact .inl (List.eq_nil_of_length_eq_zero (by omega))
  · cases e
    exact rowC_of h
end Go.Proofs.YtldpajfendkhbaaDoor

/- A search by guess: what it comes to: the mathematics of the laws. -/
namespace Go.Proofs.YtldpajfendkhbaaDoor
open Go.RowKit

theorem count_ge {p : Nat → Bool} : ∀ (N : Nat) (L : List Nat), L.Nodup → (∀ x ∈ L, x < N ∧ p x = true) → L.length ≤ (List.range N).countP p
  | 0, L, _, h => by
    cases L with
    | nil => exact Nat.zero_le _
    | cons x l => exact absurd (h x (List.mem_cons_self ..)).1 (by omega)
  | N + 1, L, hn, h => by
    have h1 := count_ge N (L.filter (fun x => decide (x ≠ N))) (hn.sublist List.filter_sublist) (fun x hx => by
      rw [List.mem_filter] at hx
      have h2 := h x hx.1
      have := of_decide_eq_true hx.2
      exact ⟨by omega, h2.2⟩)
    rw [List.range_succ, List.countP_append]
    by_cases hN : N ∈ L
    · have h2 : ∀ l : List Nat, l.Nodup → l.length ≤ (l.filter (fun x => decide (x ≠ N))).length + 1 := by
        intro l
        induction l with
        | nil => intro _; exact Nat.zero_le _
        | cons x l ih =>
          intro hn
          rw [List.nodup_cons] at hn
          by_cases e : x = N
          · have : l.filter (fun x => decide (x ≠ N)) = l := by
              rw [List.filter_eq_self]
              intro y hy
              exact decide_eq_true (fun q => hn.1 (by rw [e, ← q]; exact hy))
            rw [List.filter_cons, if_neg (by simp [e]), this]
            simp
          · rw [List.filter_cons, if_pos (decide_eq_true e)]
            have := ih hn.2
            simp only [List.length_cons]
            omega
      have h3 := h2 L hn
      have h4 : [N].countP p = 1 := by simp [(h N hN).2]
      omega
    · have : L.filter (fun x => decide (x ≠ N)) = L := by
        rw [List.filter_eq_self]
        intro y hy
        exact decide_eq_true (fun q => hN (by rw [← q]; exact hy))
      rw [this] at h1
      omega
section
variable {G : Gph} {s0 goal : Nat} {d h : Nat → Int} {nb : Nat → List Nat}
/-- The way to the goal; and that, if the budget is spent, not all are settled. -/
theorem run_more (hG : G.Ok) (hF : Far G s0 d) (hh : ∀ i j, G.opn i → G.opn j → j ∈ G.nb i → h j ≤ h i + G.k i) (hnb : ∀ b, G.opn b → ∀ j, j ∈ nb b ↔ j ∈ G.nb b ∧ G.opn j) (budget : Int) :
    ∀ (f n : Nat) (s : AS), RunI G s0 d h goal n s → ∀ e m s', runA G.k nb h G.N goal budget f n s = (e, m, s') →
      (e = 0 → ∃ L, ChainA G s' s0 goal L ∧ ∀ x ∈ L, G.opn x) ∧ (e = 23 → m < G.N)
  | 0, n, s, hI, e, m, s', hr => by
    rw [runA] at hr
    cases hr
    exact ⟨fun q => (by cases q), fun q => (by cases q)⟩
  | f + 1, n, s, hI, e, m, s', hr => by
    rw [runA] at hr
    cases hb : bestTo s h G.N with
    | none =>
      rw [hb] at hr
      cases hr
      exact ⟨fun q => (by cases q), fun q => (by cases q)⟩
    | some b =>
      rw [hb] at hr
      simp only at hr
      obtain ⟨b1, b2, b3⟩ := bestTo_some hb
      by_cases hbu : (n : Int) = budget
      · rw [if_pos hbu] at hr
        cases hr
        refine ⟨fun q => (by cases q), fun _ => ?_⟩
        have h1 := count_one (p := fun i => decide (s.st i = 2)) (q := fun i => decide ((settleB s b).st i = 2)) (b := b) (fun i => by simp [settle_two]) (by simp; omega) G.N b1
        have h2 := cnt_le G.N (settleB s b)
        have h3 := hI.cnt
        unfold cntA at h2 h3
        omega
      · rw [if_neg hbu] at hr
        by_cases hg : b = goal
        · rw [if_pos hg] at hr
          subst hg
          obtain ⟨e1, e2⟩ := best_exact hG hF hh hI.inv hI.lt hb
          have hbd := hF.bd b
          have hdb := (hI.inv.opn b (by omega)).1
          cases hr
          refine ⟨fun _ => ?_, fun q => (by cases q)⟩
          obtain ⟨L, hL⟩ := chain_ex hG hF hI.inv (s.g b).toNat b (by omega) (by omega)
          refine ⟨L, hL.settle, fun x hx => ?_⟩
          obtain ⟨k, hk⟩ := List.getElem?_of_mem hx
          exact hF.opn (hI.inv.opn x (hL.stp k x hk).1).1
        · rw [if_neg hg] at hr
          exact run_more hG hF hh hnb budget f (n + 1) _ (runI_next hG hF hh hnb hI hb hg) e m s' hr
end
theorem bes_of_nb {A H : Int} {x y : Nat} (hm : mayB A H = true) (hx : (x : Int) < A * H) (h : y ∈ nbL A H x) : besI (cellN A y) (cellN A x) ≠ -1 := by
  obtain ⟨m, m0, m3, ho, he⟩ := mem_nbL.1 (nbL_sym hm hx h)
  have : stepI (cellN A y) m = cellN A x := by rw [← he, cellN_num ho]
  rw [← this, bes_step _ m0 m3]
  omega
/-- A way that was traced, as a path of cells. -/
theorem path_of_chain {A H : Int} {zs : List Int} {s : AS} {s0 i : Nat} {L : List Nat} (hm : mayB A H = true) (hn : (zs.length : Int) = A * H) (hC : ChainA (gph A H zs) s s0 i L) (ho : ∀ x ∈ L, (gph A H zs).opn x) :
    IsPath A H zs (L.reverse.map (cellN A)) ∧ cK (L.reverse.map (cellN A)) 0 = cellN A s0 ∧ cK (L.reverse.map (cellN A)) ((L.reverse.map (cellN A)).length - 1) = cellN A i ∧ costS A zs (L.reverse.map (cellN A)).tail = s.g i := by
  have hpos : 0 < L.length := by
    obtain ⟨l, rfl⟩ := hC.head
    simp
  have hlen : (L.reverse.map (cellN A)).length = L.length := by simp
  have hat : ∀ k, k < L.length → ∃ x, L[L.length - 1 - k]? = some x ∧ x ∈ L ∧ cK (L.reverse.map (cellN A)) k = cellN A x ∧ (x : Int) < A * H := fun k hk => by
    have hj : L.length - 1 - k < L.length := by omega
    refine ⟨L[L.length - 1 - k], List.getElem?_eq_getElem hj, List.getElem_mem hj, ?_, ?_⟩
    · have := cK_at (l := L.reverse.map (cellN A)) (k := k) (by omega)
      rw [List.getElem?_map, List.getElem?_reverse hk, List.getElem?_eq_getElem hj] at this
      exact (Option.some.inj this).symm
    · have h1 : L[L.length - 1 - k] < zs.length := (ho _ (List.getElem_mem hj)).1
      omega
  refine ⟨⟨by omega, fun k hk => ?_, fun k hk => ?_, fun k hk => ?_⟩, ?_, ?_, ?_⟩
  · obtain ⟨x, _, _, e, hx⟩ := hat k (by omega)
    rw [e]
    exact cellN_on hm hx
  · obtain ⟨y, hy1, hy2, ey, _⟩ := hat k (by omega)
    obtain ⟨x, hx1, hx2, ex, hx⟩ := hat (k + 1) (by omega)
    rw [ey, ex]
    have h1 := (hC.stp _ x hx1).2.2 y (by rw [show L.length - 1 - (k + 1) + 1 = L.length - 1 - k by omega]; exact hy1)
    exact bes_of_nb hm hx h1.2
  · obtain ⟨x, _, hx2, e, hx⟩ := hat k (by omega)
    rw [e]
    show zs.getD (numN A (cellN A x)) 0 ≠ 0
    rw [numN_cell hm hx]
    exact (ho x hx2).2
  · obtain ⟨x, hx1, hx2, e, hx⟩ := hat 0 hpos
    rw [e, ((hC.stp _ x hx1).2.1).2 (by omega)]
  · obtain ⟨x, hx1, hx2, e, hx⟩ := hat ((L.reverse.map (cellN A)).length - 1) (by omega)
    rw [e]
    obtain ⟨l, rfl⟩ := hC.head
    rw [show (i :: l).length - 1 - (((i :: l).reverse.map (cellN A)).length - 1) = 0 by rw [hlen]; omega] at hx1
    simp at hx1
    rw [hx1]
  · have h1 : (L.reverse.map (cellN A)).tail = (L.dropLast.reverse).map (cellN A) := by
      rw [← List.map_tail, List.tail_reverse]
    rw [h1]
    unfold costS
    rw [List.map_map]
    have h2 : L.dropLast.reverse.map (costAt A zs ∘ cellN A) = L.dropLast.reverse.map (gph A H zs).k := by
      refine List.map_congr_left fun x hx => ?_
      have hxl : x ∈ L := List.dropLast_subset _ (List.mem_reverse.1 hx)
      have h3 : x < zs.length := (ho x hxl).1
      show zs.getD (numN A (cellN A x)) 0 = zs.getD x 0
      rw [numN_cell hm (by omega)]
    rw [h2, List.map_reverse, List.sum_reverse, hC.cost]
theorem seek_err {A H : Int} {zs : List Int} {F T : IC} {budget : Int} (hE : errS A H zs.length F T budget ≠ 0) : seekT A H zs F T budget = ⟨errS A H zs.length F T budget, [], 0, 0⟩ := by
  unfold seekT
  rw [if_pos hE]
theorem seek_wall {A H : Int} {zs : List Int} {F T : IC} {budget : Int} (hE : errS A H zs.length F T budget = 0) (hw : wallT A zs F T = true) : seekT A H zs F T budget = ⟨22, [], 0, 0⟩ := by
  unfold seekT
  rw [if_neg (fun q => q hE), if_pos hw]
theorem seek_run {A H : Int} {zs : List Int} {F T : IC} {budget : Int} {E : Int} {M : Nat} {S' : AS} (hE : errS A H zs.length F T budget = 0) (hw : ¬ wallT A zs F T = true) (hr : runT A H zs F T budget = (E, M, S')) : seekT A H zs F T budget = if E = 0 then ⟨0, pathT A zs F T S', S'.g (numN A T), (M : Nat)⟩ else ⟨E, [], 0, (M : Nat)⟩ := by
  unfold seekT
  rw [if_neg (fun q => q hE), if_neg hw, hr]
/-- A search that comes to the goal. -/
structure GoalR (A H : Int) (zs : List Int) (F T : IC) (d : Nat → Int) (t : Told) : Prop where
  E : t.E = 0
  fin : d (numN A T) ≠ 18446744073709551615
  C : t.C = d (numN A T)
  path : IsPath A H zs t.P
  first : cK t.P 0 = F
  last : cK t.P (t.P.length - 1) = T
  cost : costS A zs t.P.tail = t.C
  num : ∃ m : Nat, t.M = (m : Int) ∧ t.P.length ≤ m ∧ m ≤ zs.length ∧ (List.range zs.length).countP (fun i => decide (d i ≠ 18446744073709551615 ∧ d i + guessI (cellN A i) T < t.C)) ≤ m ∧ m ≤ (List.range zs.length).countP (fun i => decide (d i ≠ 18446744073709551615 ∧ d i + guessI (cellN A i) T ≤ t.C))
/-- How many cells are reached, if the goal is no wall. -/
def reachN (A : Int) (zs : List Int) (T : IC) (d : Nat → Int) (n : Nat) : Nat := (List.range n).countP (fun i => decide (d i ≠ 18446744073709551615 ∧ zs.getD (numN A T) 0 ≠ 0))
theorem guess_self (T : IC) : guessI T T = 0 := by
  unfold guessI apartI
  omega
theorem seek_ends {A H : Int} {zs : List Int} {F T : IC} {budget : Int} {d : Nat → Int} (hm : mayB A H = true) (hn : (zs.length : Int) = A * H) (hz : AllH zs) (hF : onB A H F = true) (hT : onB A H T = true) (hb : 0 ≤ budget) (hd : Far (gph A H zs) (numN A F) d) :
    (seekT A H zs F T budget = ⟨22, [], 0, (reachN A zs T d zs.length : Nat)⟩ ∧ d (numN A T) = 18446744073709551615) ∨ GoalR A H zs F T d (seekT A H zs F T budget) ∨ (seekT A H zs F T budget = ⟨23, [], 0, budget⟩ ∧ budget < (zs.length : Int)) := by
  have hc : chkF A H (zs.length : Nat) = 0 := by unfold chkF; rw [if_pos hm, if_pos hn]
  have hE : errS A H (zs.length : Nat) F T budget = 0 := by unfold errS; rw [if_neg (fun q => q hc), if_pos ⟨hF, hT⟩, if_neg (by omega)]
  have hG := gph_ok hm hn hz
  have hFn := numN_int hF
  have hTn := numN_int hT
  unfold seekT
  rw [if_neg (fun q => q hE)]
  by_cases hw : zs.getD (numN A F) 0 = 0 ∨ zs.getD (numN A T) 0 = 0
  · rw [if_pos (by unfold wallT; exact decide_eq_true hw)]
    have h0 : reachN A zs T d zs.length = 0 := by
      unfold reachN
      rw [List.countP_eq_zero]
      intro i _ q
      have q := of_decide_eq_true q
      rcases hw with e | e
      · exact q.1 (hd.nos (fun ho => ho.2 e) i)
      · exact q.2 e
    refine .inl ⟨by rw [h0]; rfl, ?_⟩
    rcases hw with e | e
    · exact hd.nos (fun ho => ho.2 e) _
    · exact hd.wall _ (fun ho => ho.2 e)
  · rw [if_neg (by unfold wallT; rw [decide_eq_false hw]; decide)]
    have hoF : (gph A H zs).opn (numN A F) := ⟨by show numN A F < zs.length; omega, fun q => hw (.inl q)⟩
    have hRI : RunI (gph A H zs) (numN A F) d (fun i => guessI (cellN A i) (cellN A (numN A T))) (numN A T) 0 (startA (numN A F)) := runI_start hd hoF
    have hh := guess_k hm hn hz (cellN A (numN A T))
    have hnb := fun b (_ : (gph A H zs).opn b) j => nbS_mem hn b j
    obtain ⟨E, M, S', hr, h1, h2, h3⟩ := run_end hG hd hh hnb budget (zs.length + 1) 0 _ hRI (by show zs.length < 0 + (zs.length + 1); omega)
    have hmore := run_more hG hd hh hnb budget (zs.length + 1) 0 _ hRI E M S' hr
    have hr2 : runT A H zs F T budget = (E, M, S') := hr
    rw [hr2]
    rcases h3 with ⟨rfl, e1, e2, e3, e4⟩ | ⟨rfl, e1, e2, e3, e4, e5, e6, e7, e8⟩ | ⟨rfl, e1⟩
    · refine .inl ⟨?_, e3⟩
      rw [if_neg (show ¬ (22 : Int) = 0 by decide)]
      have : reachN A zs T d zs.length = M := by
        rw [← e1]
        unfold reachN cntA
        refine List.countP_congr fun i _ => ?_
        rw [decide_eq_true_iff, decide_eq_true_iff, e4 i]
        exact ⟨fun q => q.1, fun q => ⟨q, fun q2 => hw (.inr q2)⟩⟩
      rw [this]
    · refine .inr (.inl ?_)
      rw [if_pos rfl]
      obtain ⟨L, hL, hLo⟩ := hmore.1 rfl
      have hlen := nodup_lt_len zs.length L hL.nd (fun x hx => (hLo x hx).1)
      have hp : pathT A zs F T S' = L.reverse.map (cellN A) := by unfold pathT; rw [← chain_is hL hlen]
      obtain ⟨p1, p2, p3, p4⟩ := path_of_chain hm hn hL hLo
      have hTT : cellN A (numN A T) = T := cellN_num hT
      simp only [hTT, guess_self] at e6 e7
      have e9 : ∀ (k x : Nat), L[k]? = some x → S'.st x = 2 := by
        intro k
        induction k with
        | zero =>
          intro x hx
          obtain ⟨l, rfl⟩ := hL.head
          cases hx
          exact e5
        | succ k ih =>
          intro x hx
          have hk : k < L.length := by have := (List.getElem?_eq_some_iff.1 hx).1; omega
          obtain ⟨y, hy⟩ : ∃ y, L[k]? = some y := ⟨_, List.getElem?_eq_getElem hk⟩
          obtain ⟨q1, q2, q3⟩ := hL.stp k y hy
          have hne : y ≠ numN A F := fun q => by have := q2.1 q; have := (List.getElem?_eq_some_iff.1 hx).1; omega
          rw [(q3 x hx).1]
          exact (e8 y (ih y hy) hne).1
      refine ⟨rfl, e3, e4, ?_, ?_, ?_, ?_, M, rfl, ?_, h2, ?_, ?_⟩
      · show IsPath A H zs (pathT A zs F T S')
        rw [hp]; exact p1
      · show cK (pathT A zs F T S') 0 = F
        rw [hp, p2]; exact cellN_num hF
      · show cK (pathT A zs F T S') ((pathT A zs F T S').length - 1) = T
        rw [hp, p3]; exact hTT
      · show costS A zs (pathT A zs F T S').tail = S'.g (numN A T)
        rw [hp, p4]
      · show (pathT A zs F T S').length ≤ M
        rw [hp, List.length_map, List.length_reverse, ← e2]
        exact count_ge _ L hL.nd (fun x hx => ⟨(hLo x hx).1, by
          obtain ⟨k, hk⟩ := List.getElem?_of_mem hx
          exact decide_eq_true (e9 k x hk)⟩)
      · show (List.range zs.length).countP (fun i => decide (d i ≠ 18446744073709551615 ∧ d i + guessI (cellN A i) T < S'.g (numN A T))) ≤ M
        rw [← e2]
        refine List.countP_mono_left fun i _ hi => ?_
        have hi := of_decide_eq_true hi
        exact decide_eq_true (e7 i hi.1 (by rw [e4] at hi; omega))
      · show M ≤ (List.range zs.length).countP (fun i => decide (d i ≠ 18446744073709551615 ∧ d i + guessI (cellN A i) T ≤ S'.g (numN A T)))
        rw [← e2]
        refine List.countP_mono_left fun i _ hi => ?_
        have hi := e6 i (of_decide_eq_true hi)
        refine decide_eq_true ⟨hi.1, ?_⟩
        rw [e4]
        omega
    · refine .inr (.inr ⟨?_, ?_⟩)
      · rw [if_neg (show ¬ (23 : Int) = 0 by decide), e1]
      · have : M < zs.length := hmore.2 rfl
        omega
/-- With a budget of as many as were settled, or more, the same is told, and with less ErrBudget. -/
theorem seek_budget {A H : Int} {zs : List Int} {F T : IC} {budget : Int} (hE : errS A H zs.length F T zs.length = 0) (hb : 0 ≤ budget) (h23 : (seekT A H zs F T zs.length).E ≠ 23) :
    ((seekT A H zs F T zs.length).M ≤ budget → seekT A H zs F T budget = seekT A H zs F T zs.length) ∧ (budget < (seekT A H zs F T zs.length).M → seekT A H zs F T budget = ⟨23, [], 0, budget⟩) := by
  obtain ⟨h1, h2, h3, _⟩ := errS_ok hE
  have hE2 : errS A H (zs.length : Nat) F T budget = 0 := by unfold errS; rw [if_neg (fun q => q h1), if_pos ⟨h2, h3⟩, if_neg (by omega)]
  by_cases hw : wallT A zs F T = true
  · rw [seek_wall hE hw, seek_wall hE2 hw]
    exact ⟨fun _ => rfl, fun q => by have : budget < 0 := q; omega⟩
  · obtain ⟨E, M, S', hr⟩ : ∃ E M S', runT A H zs F T (zs.length : Nat) = (E, M, S') := ⟨_, _, _, rfl⟩
    rw [seek_run hE hw hr] at h23 ⊢
    have hE0 : E ≠ 23 := by
      intro q
      subst q
      exact h23 rfl
    obtain ⟨q1, q2⟩ := run_budget _ _ _ _ _ ((zs.length : Nat) : Int) budget _ 0 _ E M S' hr (by omega) (by omega) hE0
    have hM : (if E = 0 then (⟨0, pathT A zs F T S', S'.g (numN A T), (M : Nat)⟩ : Told) else ⟨E, [], 0, (M : Nat)⟩).M = (M : Int) := by split <;> rfl
    rw [hM]
    refine ⟨fun q => ?_, fun q => ?_⟩
    · rw [seek_run hE2 hw (q1 q)]
    · obtain ⟨s2, hs⟩ := q2 q
      rw [seek_run hE2 hw hs, if_neg (show ¬ (23 : Int) = 0 by decide)]
      rw [show ((budget.toNat : Nat) : Int) = budget by omega]
end Go.Proofs.YtldpajfendkhbaaDoor

/- A search by guess: what the laws hold against one another. -/
namespace Go.Proofs.YtldpajfendkhbaaDoor
open Go.RowKit

theorem sfind_as (A H : Int) (a : Option Addr) (cap : Nat) (zs : List Int) (F T : IC) (budget : Int) {E C M : Int} {P : List IC} (ht : seekT A H zs F T budget = ⟨E, P, C, M⟩) (w : World) (hr : RowH w a zs) (hz : AllH zs) (hst : Stp w) :
    Calls Tryd.prog 11 #[.agg #[.int .i64 A, .int .i64 H, .slice a zs.length cap], .agg #[.int .i64 F.1, .int .i64 F.2], .agg #[.int .i64 T.1, .int .i64 T.2], .int .i64 budget] w fun e w' => (∃ pa pc, e = .returned (.tuple #[.agg #[.slice pa P.length pc, .int .u64 C, .int .i64 M], .int .i64 E]) ∧ w'.ownsRow w.heap.size 28 2 (.slice pa P.length pc) P.length (flatC P) ∧ P.length ≤ 65536) ∧ Below w.heap.size w w' := by
  have h := sfind_told A H a cap zs F T budget w hr hz hst
  rw [ht] at h
  exact h
theorem budget_cases {A H : Int} {a : Option Addr} {zs : List Int} {F T : IC} {budget : Int} {w : World} (hr : RowH w a zs) (hz : AllH zs) (hst : Stp w) {E1 C1 M1 : Int} {P1 : List IC} (h1 : seekT A H zs F T zs.length = ⟨E1, P1, C1, M1⟩) :
    (E1 ≠ 0 ∧ E1 ≠ 22 ∧ P1 = [] ∧ M1 = 0 ∧ seekT A H zs F T budget = ⟨E1, P1, C1, M1⟩) ∨ ((E1 = 0 ∨ E1 = 22) ∧ (budget < 0 ∧ seekT A H zs F T budget = ⟨1, [], 0, 0⟩ ∨ 0 ≤ budget ∧ budget < M1 ∧ seekT A H zs F T budget = ⟨23, [], 0, budget⟩ ∨ 0 ≤ budget ∧ M1 ≤ budget ∧ seekT A H zs F T budget = ⟨E1, P1, C1, M1⟩)) := by
  by_cases hE : errS A H zs.length F T zs.length = 0
  · right
    obtain ⟨q1, q2, q3, _⟩ := errS_ok hE
    obtain ⟨hm, hn⟩ := chkF_may q1
    obtain ⟨ds, _, hd⟩ := far_ex A H a zs.length zs F w hr hz hst q1 q2
    have hends := seek_ends (budget := ((zs.length : Nat) : Int)) hm hn hz q2 q3 (by omega) hd
    rw [h1] at hends
    have hE1 : E1 = 0 ∨ E1 = 22 := by
      rcases hends with ⟨h, _⟩ | h | ⟨_, h⟩
      · cases h; exact .inr rfl
      · exact .inl h.E
      · omega
    refine ⟨hE1, ?_⟩
    by_cases hb : budget < 0
    · left
      refine ⟨hb, ?_⟩
      have he : errS A H zs.length F T budget = 1 := by unfold errS; rw [if_neg (fun q => q q1), if_pos ⟨q2, q3⟩, if_pos hb]
      rw [seek_err (by rw [he]; decide), he]
    · right
      have h23 : (seekT A H zs F T zs.length).E ≠ 23 := by
        rw [h1]
        show E1 ≠ 23
        omega
      obtain ⟨k1, k2⟩ := seek_budget (budget := budget) hE (by omega) h23
      rw [h1] at k1 k2
      by_cases hM : budget < M1
      · exact .inl ⟨by omega, hM, k2 hM⟩
      · refine .inr ⟨by omega, by omega, ?_⟩
        exact k1 (show M1 ≤ budget by omega)
  · left
    rw [seek_err hE] at h1
    cases h1
    have he : errS A H zs.length F T budget = errS A H zs.length F T zs.length ∧ errS A H zs.length F T zs.length ≠ 22 := by
      unfold errS at hE ⊢
      by_cases hc : chkF A H zs.length ≠ 0
      · rw [if_pos hc, if_pos hc]
        refine ⟨rfl, ?_⟩
        unfold chkF
        split
        · split <;> decide
        · decide
      · rw [if_neg hc] at hE
        rw [if_neg hc, if_neg hc]
        by_cases ho : onB A H F = true ∧ onB A H T = true
        · rw [if_pos ho, if_neg (by omega)] at hE
          exact absurd rfl hE
        · rw [if_neg ho, if_neg ho]
          exact ⟨rfl, by decide⟩
    refine ⟨hE, he.2, rfl, rfl, ?_⟩
    rw [seek_err (by rw [he.1]; exact hE), he.1]
theorem errS_all {A H : Int} {zs : List Int} {F T : IC} : errS A H zs.length F T zs.length = errS A H zs.length T F zs.length := by
  unfold errS
  by_cases hc : chkF A H zs.length ≠ 0
  · rw [if_pos hc, if_pos hc]
  · rw [if_neg hc, if_neg hc]
    by_cases ho : onB A H F = true ∧ onB A H T = true
    · have ho2 : onB A H T = true ∧ onB A H F = true := ⟨ho.2, ho.1⟩
      rw [if_pos ho, if_pos ho2]
    · have ho2 : ¬ (onB A H T = true ∧ onB A H F = true) := fun q => ho ⟨q.2, q.1⟩
      rw [if_neg ho, if_neg ho2]
theorem own_cases {A H : Int} {a : Option Addr} {zs : List Int} {F T : IC} {w : World} (hr : RowH w a zs) (hz : AllH zs) (hst : Stp w) {E1 C1 M1 E2 C2 M2 : Int} {P1 P2 : List IC} (h1 : seekT A H zs F T zs.length = ⟨E1, P1, C1, M1⟩) (h2 : seekT A H zs T F zs.length = ⟨E2, P2, C2, M2⟩) :
    E1 = E2 ∧ (E1 ≠ 0 → P1 = [] ∧ P2 = []) ∧ (E1 = 0 → (mayB A H = true ∧ (zs.length : Int) = A * H ∧ onB A H F = true ∧ onB A H T = true) ∧ (0 ≤ C1 ∧ C1 ≤ 4294967296) ∧ (0 ≤ C2 ∧ C2 ≤ 4294967296) ∧ C1 + zs.getD (numN A F) 0 = C2 + zs.getD (numN A T) 0) := by
  by_cases hE : errS A H zs.length F T zs.length = 0
  · obtain ⟨q1, q2, q3, _⟩ := errS_ok hE
    obtain ⟨hm, hn⟩ := chkF_may q1
    obtain ⟨d, _, hd⟩ := far_ex A H a zs.length zs F w hr hz hst q1 q2
    obtain ⟨d', _, hd'⟩ := far_ex A H a zs.length zs T w hr hz hst q1 q3
    have e1 := seek_ends (budget := ((zs.length : Nat) : Int)) hm hn hz q2 q3 (by omega) hd
    have e2 := seek_ends (budget := ((zs.length : Nat) : Int)) hm hn hz q3 q2 (by omega) hd'
    rw [h1] at e1
    rw [h2] at e2
    obtain ⟨b1, b2⟩ := hd.back (gph_ok hm hn hz) hd'
    rcases e1 with ⟨e1, i1⟩ | g1 | ⟨_, i1⟩
    · have i2 := b1.1 i1
      rcases e2 with ⟨e2, _⟩ | g2 | ⟨_, i2⟩
      · cases e1; cases e2
        exact ⟨rfl, fun _ => ⟨rfl, rfl⟩, fun q => (by cases q)⟩
      · exact absurd i2 g2.fin
      · omega
    · have f1 := g1.fin
      have c1 : C1 = atD d (numN A T) := g1.C
      rcases e2 with ⟨_, i2⟩ | g2 | ⟨_, i2⟩
      · exact absurd (b1.2 i2) f1
      · have f2 := g2.fin
        have c2 : C2 = atD d' (numN A F) := g2.C
        have z1 : E1 = 0 := g1.E
        have z2 : E2 = 0 := g2.E
        have b3 := b2 f1
        have w1 := hd.bd (numN A T)
        have w2 := hd'.bd (numN A F)
        refine ⟨by omega, fun q => absurd z1 q, fun _ => ⟨⟨hm, hn, q2, q3⟩, by omega, by omega, ?_⟩⟩
        rw [c1, c2]
        exact b3
      · omega
    · omega
  · have hE2 : errS A H zs.length T F zs.length ≠ 0 := by rw [← errS_all]; exact hE
    rw [seek_err hE] at h1
    rw [seek_err hE2, ← errS_all] at h2
    cases h1; cases h2
    exact ⟨rfl, fun _ => ⟨rfl, rfl⟩, fun q => absurd q hE⟩
theorem num_onS {A B : Int} {c : IC} (h : onB A B c = true) : IntKind.i64.wrap (c.2 * A) = c.2 * A ∧ IntKind.i64.wrap (c.2 * A + c.1) = (numN A c : Int) := by
  obtain ⟨e1, e2⟩ := numN_int h
  obtain ⟨h1, h2, h3, h4, h5, h6, h7, h8⟩ := inB_iff.1 h
  obtain ⟨m1, m2⟩ := mul_bd h7 (by omega) h1 h2
  exact ⟨IntWalk.i64_in _ (by omega), by rw [e1]; exact IntWalk.i64_in _ (by omega)⟩
end Go.Proofs.YtldpajfendkhbaaDoor
