/- GeomWalk: the law's walk. -/
import Derived.Test.YtdacoeehhpnkbaaDoorLback
import Derived.Lib.Hide
import Derived.Deep.RegionHeld3
import Derived.Deep.LoopGhost
namespace Go.Proofs.YtdacoeehhpnkbaaDoor
open Go.RowKit

def stepE (d : Int) : Int := if d < 0 ∨ 4 ≤ d then 1 else 10
theorem stepE_ne (d : Int) : (stepE d == 0) = false := by unfold stepE; split <;> decide
theorem step_not (W H X Y d : Int) (w : World) (hs : Stp w) (hi : inB W H X Y = true) (hn : ¬ (0 ≤ d ∧ d < 4 ∧ inB W H (X + dxI d) (Y + dyI d) = true)) :
    Calls Tryd.prog 19 #[.agg #[.int .i64 W, .int .i64 H], .agg #[.int .i64 X, .int .i64 Y], .int .i64 d] w fun e w' => e = .returned (.tuple #[.agg #[.int .i64 0, .int .i64 0], .int .i64 (stepE d)]) ∧ Below w.heap.size w w' := by
  by_cases hd : d < 0 ∨ 4 ≤ d
  · have h := step_arg W H X Y d w hd
    simpa [stepE, hd] using h
  · have hj : inB W H (X + dxI d) (Y + dyI d) = false := by
      cases h : inB W H (X + dxI d) (Y + dyI d)
      · rfl
      · exact absurd ⟨by omega, by omega, h⟩ hn
    have h := step_out W H X Y d w hs (by omega) (by omega) hi hj
    simpa [stepE, hd] using h

/-- A slice of ints that came in: its first numbers. -/
def Row (w : World) (a : Option Addr) (len : Nat) (zs : List Int) : Prop :=
  len = 0 ∨ ∃ b off, a = some ⟨b, off, none⟩ ∧ ∀ i, i < len → w.cell? ⟨b, off + i, none⟩ = some (.int .i64 (zs.getD i 0))

theorem new_pair {w w4 : World} {x y : Value} {t : TypeId} (hb : Below (w.alloc (.cells #[x, y] t)).drew.heap.size (w.alloc (.cells #[x, y] t)).drew w4) :
    w4.cell? ⟨w.heap.size, 0, none⟩ = some x ∧ w4.cell? ⟨w.heap.size, 1, none⟩ = some y ∧ w4.frozen? ⟨w.heap.size, 0, none⟩ = false ∧ w4.frozen? ⟨w.heap.size, 1, none⟩ = false := by
  have h0 : (w.alloc (.cells #[x, y] t)).drew.cell? ⟨w.heap.size, 0, none⟩ = some x := by simp [go_sem]
  have h1 : (w.alloc (.cells #[x, y] t)).drew.cell? ⟨w.heap.size, 1, none⟩ = some y := by simp [go_sem]
  exact ⟨cell_later hb h0, cell_later hb h1, frozen_later hb h0 (by simp [go_sem]), frozen_later hb h1 (by simp [go_sem])⟩

def GW (W H X Y P Q : Int) (m : Nat) : Prop := inB W H P Q = true ∧ apartI X P + apartI Y Q ≤ m ∧ ((m : Int) - (apartI X P + apartI Y Q)) % 2 = 0
theorem GW.next {W H X Y P Q d : Int} {m : Nat} (h : GW W H X Y P Q m) (h0 : 0 ≤ d) (h4 : d < 4) (hj : inB W H (P + dxI d) (Q + dyI d) = true) : GW W H X Y (P + dxI d) (Q + dyI d) (m + 1) := by
  obtain ⟨_, h1, h2⟩ := h
  have hc := dx_cases h0 h4
  have e0 := apartI_def X P
  have e1 := apartI_def Y Q
  have e2 := apartI_def X (P + dxI d)
  have e3 := apartI_def Y (Q + dyI d)
  refine ⟨hj, ?_, ?_⟩
  · omega
  · omega

set_option maxRecDepth 100000 in
set_option maxHeartbeats 3200000 in
theorem lwalk_yes (W H X Y : Int) (a : Option Addr) (len cap : Nat) (zs : List Int) (w : World) (hs : Stp w) (hi : inB W H X Y = true) (hl : len ≤ 300) (hrow : Row w a len zs) :
    Calls Tryd.prog 9 #[.agg #[.int .i64 W, .int .i64 H], .agg #[.int .i64 X, .int .i64 Y], .slice a len cap] w fun e w' => e = .returned (.bool true) ∧ Below w.heap.size w w' := by
  have hA := bl0 w
  have hp := plain_of_in hi
  have hl' : ((300 : Int) < (len : Int)) = False := by simp; omega
  go_enter Tryd.func9, Tryd.ntmps9
  go_wp2_with fail
  refine (in_any _ _ _ _ _).mono ?_
  rintro e w1 ⟨rfl, hb⟩
  have hk : Below w.heap.size w w1 := by first | exact hb | exact bl_tr (bl_al (bl0 _) _) hb | exact bl_tr (bl_dr (bl_al (bl0 _) _)) hb | exact bl_tr (bl_al (bl_al (bl0 _) _) _) hb | exact bl_tr (bl_dr (bl_al (bl_al (bl0 _) _) _)) hb | exact bl_tr (bl_al (bl_al (bl_al (bl0 _) _) _) _) hb | exact bl_tr (bl_dr (bl_al (bl_al (bl_al (bl0 _) _) _) _)) hb | exact bl_tr (bl_al (bl_al (bl_al (bl_al (bl0 _) _) _) _) _) hb | exact bl_tr (bl_dr (bl_al (bl_al (bl_al (bl_al (bl0 _) _) _) _) _)) hb | exact bl_tr (bl_al (bl_al (bl_al (bl_al (bl_al (bl0 _) _) _) _) _) _) hb | exact bl_tr (bl_dr (bl_al (bl_al (bl_al (bl_al (bl_al (bl0 _) _) _) _) _) _)) hb | exact bl_tr (bl_al (bl_al (bl_al (bl_al (bl_al (bl_al (bl0 _) _) _) _) _) _) _) hb | exact bl_tr (bl_dr (bl_al (bl_al (bl_al (bl_al (bl_al (bl_al (bl0 _) _) _) _) _) _) _)) hb | exact bl_tr (bl_dr (bl0 _)) hb
  replace hA := bl_tr hA hk
  have s0 := cell_later hb (v := .int .i64 W) (a := ⟨w.heap.size, 0, none⟩) (by simp [go_sem])
  have s1 := cell_later hb (v := .int .i64 H) (a := ⟨w.heap.size, 1, none⟩) (by simp [go_sem])
  have a0 := cell_later hb (v := .int .i64 X) (a := ⟨w.heap.size + 1, 0, none⟩) (by simp [go_sem])
  have a1 := cell_later hb (v := .int .i64 Y) (a := ⟨w.heap.size + 1, 1, none⟩) (by simp [go_sem])
  clear hb hk
  have zs0 := blk_lt s0
  have zs1 := blk_lt s1
  have za0 := blk_lt a0
  have za1 := blk_lt a1
  go_wp2
  have hw1 : w.heap.size + 1 < w1.heap.size := za0
  have hA2 := bl_al hA (.cells #[.int .i64 X, .int .i64 Y] 25)
  go_loopw [8, 9] (fun n i wr => ∃ (k m : Nat) (P Q : Int), k ≤ len ∧ m ≤ k ∧ i = .int .i64 k ∧ n = .int .i64 m ∧ Below w.heap.size w wr ∧
    wr.cell? ⟨w.heap.size, 0, none⟩ = some (.int .i64 W) ∧ wr.cell? ⟨w.heap.size, 1, none⟩ = some (.int .i64 H) ∧
    wr.cell? ⟨w.heap.size + 1, 0, none⟩ = some (.int .i64 X) ∧ wr.cell? ⟨w.heap.size + 1, 1, none⟩ = some (.int .i64 Y) ∧
    wr.cell? ⟨w1.heap.size, 0, none⟩ = some (.int .i64 P) ∧ wr.cell? ⟨w1.heap.size, 1, none⟩ = some (.int .i64 Q) ∧
    wr.frozen? ⟨w1.heap.size, 0, none⟩ = false ∧ wr.frozen? ⟨w1.heap.size, 1, none⟩ = false ∧ GW W H X Y P Q m) (fun _ i _ => len - (intOf i).toNat)
  case atStart =>
    exact ⟨0, 0, X, Y, by omega, by omega, rfl, rfl, hA2, by simp [go_sem, s0, zs0], by simp [go_sem, s1, zs0], by simp [go_sem, a0, za0], by simp [go_sem, a1, za0], by simp [go_sem], by simp [go_sem], by simp [go_sem], by simp [go_sem], hi, by unfold apartI; omega, by unfold apartI; omega⟩
  case round =>
    obtain ⟨k, m, P, Q, hk, hm, rfl, rfl, hB, t0, t1, x0, x1, p0, p1, f0, f1, hG⟩ := hrel
    clear hA hA2 s0 s1 a0 a1 zs0 zs1 za0 za1 hl'
    by_cases hlt : k < len
    · obtain ⟨b, off, rfl, hcell⟩ : ∃ b off, a = some ⟨b, off, none⟩ ∧ ∀ i, i < len → w.cell? ⟨b, off + i, none⟩ = some (.int .i64 (zs.getD i 0)) := by
        rcases hrow with h | h
        · omega
        · exact h
      have hd := cell_later hB (hcell k hlt)
      clear hrow hcell
      have zd := blk_lt hd
      have zt := blk_lt t0
      have zx := blk_lt x0
      have zp := blk_lt p0
      obtain ⟨d, hd'⟩ : ∃ d, zs.getD k 0 = d := ⟨_, rfl⟩
      rw [hd'] at hd
      clear hd'
      have hlt' : (k : Int) < (len : Int) := by omega
      by_cases hy : 0 ≤ d ∧ d < 4 ∧ inB W H (P + dxI d) (Q + dyI d) = true
      · go_wp2
        go_region_held3 (fun w' => w'.cell? ⟨w.heap.size, 0, none⟩ = some (.int .i64 W) ∧ w'.cell? ⟨w.heap.size, 1, none⟩ = some (.int .i64 H) ∧ w'.cell? ⟨w1.heap.size, 0, none⟩ = some (.int .i64 P) ∧ w'.cell? ⟨w1.heap.size, 1, none⟩ = some (.int .i64 Q) ∧ w'.cell? ⟨b, off + k, none⟩ = some (.int .i64 d))
          (refine ⟨cell_later ?_ t0, cell_later ?_ t1, cell_later ?_ p0, cell_later ?_ p1, cell_later ?_ hd⟩ <;> first | exact bl_dr (bl0 _) | exact bl_st (bl_dr (bl0 _)) (by omega) _ | exact bl_st (bl_st (bl_dr (bl0 _)) (by omega) _) (by omega) _ | exact bl_dr (bl_al (bl0 _) _) | exact bl_st (bl_dr (bl_al (bl0 _) _)) (by omega) _ | exact bl_st (bl_st (bl_dr (bl_al (bl0 _) _)) (by omega) _) (by omega) _ | exact hk4 | exact bl_st (hk4) (by omega) _ | exact bl_st (bl_st (hk4) (by omega) _) (by omega) _ | exact bl_al hk4 _ | exact bl_st (bl_al hk4 _) (by omega) _ | exact bl_st (bl_st (bl_al hk4 _) (by omega) _) (by omega) _)
          (first
          | (go_at_call 19; refine (step_to _ _ _ _ _ (P + dxI d) (Q + dyI d) _ (hs.below (bl_dr (bl_al hB _))) hy.1 hy.2.1 hG.1 rfl rfl hy.2.2).mono ?_; rintro e w4 ⟨rfl, hb⟩; have hk4 := bl_tr (bl_dr (bl_al (bl0 _) _)) hb; obtain ⟨c0, c1, g0, g1⟩ := new_pair hb; clear hb; have hz4 := hk4.size)
          | (go_at_call 19; refine (step_to _ _ _ _ _ (P + dxI d) (Q + dyI d) _ (hs.below (bl_dr hB)) hy.1 hy.2.1 hG.1 rfl rfl hy.2.2).mono ?_; rintro e w4 ⟨rfl, hb⟩; have hk4 := bl_tr (bl_dr (bl0 _)) hb; clear hb; have hz4 := hk4.size))
        all_goals
          have p0' := cell_later hk4 p0
          have p1' := cell_later hk4 p1
          have f0' := frozen_later hk4 p0 f0
          have f1' := frozen_later hk4 p1 f1
          have zp' := blk_lt p0'
          go_wp2
          go_roundw
          case measure => simp [intOf]; omega
          case rel =>
            have t0' := cell_later hk4 t0
            have t1' := cell_later hk4 t1
            have x0' := cell_later hk4 x0
            have x1' := cell_later hk4 x1
            have zx' := blk_lt x0'
            have zt' := blk_lt t0'
            have hB4 := bl_tr hB hk4
            have n1 : w1.heap.size ≠ w.heap.size := by omega
            have n2 : w1.heap.size ≠ w.heap.size + 1 := by omega
            have n3 : w1.heap.size ≠ wr.heap.size := by omega
            have n4 : wr.heap.size ≠ w.heap.size := by omega
            have n5 : wr.heap.size ≠ w.heap.size + 1 := by omega
            have hsz := hB.size
            refine ⟨k + 1, m + 1, P + dxI d, Q + dyI d, by omega, by omega, by go_num, by go_num, ?_, ?_, ?_, ?_, ?_, ?_, ?_, ?_, ?_, hG.next hy.1 hy.2.1 hy.2.2⟩
            · first
              | exact bl_al (bl_st (bl_st hB4 (by omega) _) (by omega) _) _
              | exact bl_st (bl_st (bl_st (bl_st hB4 (by omega) _) (by omega) _) (by omega) _) (by omega) _
            all_goals simp [go_sem, *]
      · have he := stepE_ne d
        go_wp2
        go_region_held3 (fun w' => w'.cell? ⟨w.heap.size, 0, none⟩ = some (.int .i64 W) ∧ w'.cell? ⟨w.heap.size, 1, none⟩ = some (.int .i64 H) ∧ w'.cell? ⟨w1.heap.size, 0, none⟩ = some (.int .i64 P) ∧ w'.cell? ⟨w1.heap.size, 1, none⟩ = some (.int .i64 Q) ∧ w'.cell? ⟨b, off + k, none⟩ = some (.int .i64 d))
          (refine ⟨cell_later ?_ t0, cell_later ?_ t1, cell_later ?_ p0, cell_later ?_ p1, cell_later ?_ hd⟩ <;> first | exact bl_dr (bl0 _) | exact bl_st (bl_dr (bl0 _)) (by omega) _ | exact bl_st (bl_st (bl_dr (bl0 _)) (by omega) _) (by omega) _ | exact bl_dr (bl_al (bl0 _) _) | exact bl_st (bl_dr (bl_al (bl0 _) _)) (by omega) _ | exact bl_st (bl_st (bl_dr (bl_al (bl0 _) _)) (by omega) _) (by omega) _ | exact hk4 | exact bl_st (hk4) (by omega) _ | exact bl_st (bl_st (hk4) (by omega) _) (by omega) _ | exact bl_al hk4 _ | exact bl_st (bl_al hk4 _) (by omega) _ | exact bl_st (bl_st (bl_al hk4 _) (by omega) _) (by omega) _)
          (first
          | (go_at_call 19; refine (step_not _ _ _ _ _ _ (hs.below (bl_dr (bl_al hB _))) hG.1 hy).mono ?_; rintro e w4 ⟨rfl, hb⟩; have hk4 := bl_tr (bl_dr (bl_al (bl0 _) _)) hb; obtain ⟨c0, c1, g0, g1⟩ := new_pair hb; clear hb; have hz4 := hk4.size)
          | (go_at_call 19; refine (step_not _ _ _ _ _ _ (hs.below (bl_dr hB)) hG.1 hy).mono ?_; rintro e w4 ⟨rfl, hb⟩; have hk4 := bl_tr (bl_dr (bl0 _)) hb; clear hb; have hz4 := hk4.size))
        all_goals
          have p0' := cell_later hk4 p0
          have p1' := cell_later hk4 p1
          have f0' := frozen_later hk4 p0 f0
          have f1' := frozen_later hk4 p1 f1
          have zp' := blk_lt p0'
          go_wp2
          go_roundw
          case measure => simp [intOf]; omega
          case rel =>
            have t0' := cell_later hk4 t0
            have t1' := cell_later hk4 t1
            have x0' := cell_later hk4 x0
            have x1' := cell_later hk4 x1
            have zx' := blk_lt x0'
            have zt' := blk_lt t0'
            have hB4 := bl_tr hB hk4
            have n1 : w1.heap.size ≠ w.heap.size := by omega
            have n2 : w1.heap.size ≠ w.heap.size + 1 := by omega
            have n3 : w1.heap.size ≠ wr.heap.size := by omega
            have n4 : wr.heap.size ≠ w.heap.size := by omega
            have n5 : wr.heap.size ≠ w.heap.size + 1 := by omega
            have hsz := hB.size
            refine ⟨k + 1, m, P, Q, by omega, by omega, by go_num, rfl, ?_, ?_, ?_, ?_, ?_, ?_, ?_, ?_, ?_, hG⟩
            · first
              | exact bl_al hB4 _
              | exact bl_st (bl_st hB4 (by omega) _) (by omega) _
            all_goals simp [go_sem, *]
    · obtain rfl : k = len := by omega
      have hp2 := plain_of_in hG.1
      obtain ⟨_, e1, e2⟩ := hG
      obtain ⟨A, hA'⟩ : ∃ A, apartI X P = A := ⟨_, rfl⟩
      obtain ⟨B, hB'⟩ : ∃ B, apartI Y Q = B := ⟨_, rfl⟩
      obtain ⟨u1, u2, u3, u4⟩ := plainB_iff.1 hp
      obtain ⟨v1, v2, v3, v4⟩ := plainB_iff.1 hp2
      have b1 := apartI_bd u1 u2 v1 v2
      have b2 := apartI_bd u3 u4 v3 v4
      have hwalk : ∀ wx : World, Calls Tryd.prog 28 #[.agg #[.int .i64 X, .int .i64 Y], .agg #[.int .i64 P, .int .i64 Q]] wx fun e w' => e = .returned (.tuple #[.int .i64 (A + B), .int .i64 0]) ∧ Below wx.heap.size wx w' := fun wx => by
        have h := walk_yes X Y P Q wx hp hp2
        rw [hA', hB'] at h
        exact h
      have hfar : ∀ wx : World, Calls Tryd.prog 27 #[.agg #[.int .i64 X, .int .i64 Y], .agg #[.int .i64 P, .int .i64 Q]] wx fun e w' => e = .returned (.tuple #[.int .i64 (max A B), .int .i64 0]) ∧ Below wx.heap.size wx w' := fun wx => by
        have h := far_yes X Y P Q wx hp hp2
        rw [hA', hB'] at h
        exact h
      rw [hA'] at b1 e1 e2
      rw [hB'] at b2 e1 e2
      obtain ⟨M, hM⟩ : ∃ M, max A B = M := ⟨_, rfl⟩
      rw [hM] at hfar
      have m1 : M ≤ A + B := by omega
      have m2 : A + B ≤ 2 * M := by omega
      have m3 : M ≤ 2097152 := by omega
      have m4 : 0 ≤ M := by omega
      have e3 : 0 ≤ (m : Int) - (A + B) := by omega
      have e4 : (m : Int) ≤ 300 := by omega
      clear hA' hB' hM
      have Hw := Lib.hid hwalk
      have Hf := Lib.hid hfar
      clear hwalk hfar
      have hA := hB
      go_wp2_with fail
      go_wp2_with fail
      refine (Hw.out _).mono ?_
      rintro e w2 ⟨rfl, hb⟩
      have hk : Below wr.heap.size wr w2 := by first | exact hb | exact bl_tr (bl_al (bl0 _) _) hb | exact bl_tr (bl_dr (bl_al (bl0 _) _)) hb | exact bl_tr (bl_al (bl_al (bl0 _) _) _) hb | exact bl_tr (bl_dr (bl_al (bl_al (bl0 _) _) _)) hb | exact bl_tr (bl_al (bl_al (bl_al (bl0 _) _) _) _) hb | exact bl_tr (bl_dr (bl_al (bl_al (bl_al (bl0 _) _) _) _)) hb | exact bl_tr (bl_al (bl_al (bl_al (bl_al (bl0 _) _) _) _) _) hb | exact bl_tr (bl_dr (bl_al (bl_al (bl_al (bl_al (bl0 _) _) _) _) _)) hb | exact bl_tr (bl_al (bl_al (bl_al (bl_al (bl_al (bl0 _) _) _) _) _) _) hb | exact bl_tr (bl_dr (bl_al (bl_al (bl_al (bl_al (bl_al (bl0 _) _) _) _) _) _)) hb | exact bl_tr (bl_al (bl_al (bl_al (bl_al (bl_al (bl_al (bl0 _) _) _) _) _) _) _) hb | exact bl_tr (bl_dr (bl_al (bl_al (bl_al (bl_al (bl_al (bl_al (bl0 _) _) _) _) _) _) _)) hb | exact bl_tr (bl_dr (bl0 _)) hb
      replace hA := bl_tr hA hk
      replace x0 := cell_later hk x0
      replace x1 := cell_later hk x1
      replace p0 := cell_later hk p0
      replace p1 := cell_later hk p1
      clear hb hk
      have zx0 := blk_lt x0
      have zx1 := blk_lt x1
      have zp0 := blk_lt p0
      have zp1 := blk_lt p1
      go_wp2_with fail
      refine (Hf.out _).mono ?_
      rintro e w3 ⟨rfl, hb⟩
      have hk : Below w2.heap.size w2 w3 := by first | exact hb | exact bl_tr (bl_al (bl0 _) _) hb | exact bl_tr (bl_dr (bl_al (bl0 _) _)) hb | exact bl_tr (bl_al (bl_al (bl0 _) _) _) hb | exact bl_tr (bl_dr (bl_al (bl_al (bl0 _) _) _)) hb | exact bl_tr (bl_al (bl_al (bl_al (bl0 _) _) _) _) hb | exact bl_tr (bl_dr (bl_al (bl_al (bl_al (bl0 _) _) _) _)) hb | exact bl_tr (bl_al (bl_al (bl_al (bl_al (bl0 _) _) _) _) _) hb | exact bl_tr (bl_dr (bl_al (bl_al (bl_al (bl_al (bl0 _) _) _) _) _)) hb | exact bl_tr (bl_al (bl_al (bl_al (bl_al (bl_al (bl0 _) _) _) _) _) _) hb | exact bl_tr (bl_dr (bl_al (bl_al (bl_al (bl_al (bl_al (bl0 _) _) _) _) _) _)) hb | exact bl_tr (bl_al (bl_al (bl_al (bl_al (bl_al (bl_al (bl0 _) _) _) _) _) _) _) hb | exact bl_tr (bl_dr (bl_al (bl_al (bl_al (bl_al (bl_al (bl_al (bl0 _) _) _) _) _) _) _)) hb | exact bl_tr (bl_dr (bl0 _)) hb
      replace hA := bl_tr hA hk
      replace x0 := cell_later hk x0
      replace x1 := cell_later hk x1
      replace p0 := cell_later hk p0
      replace p1 := cell_later hk p1
      clear hb hk
      have zx0 := blk_lt x0
      have zx1 := blk_lt x1
      have zp0 := blk_lt p0
      have zp1 := blk_lt p1
      go_wp2_with fail
      refine (awake_any _ (hs.below (by first | exact hA | exact (bl_al hA _) | exact (bl_dr (bl_al hA _)) | exact (bl_al (bl_al hA _) _) | exact (bl_dr (bl_al (bl_al hA _) _)) | exact (bl_al (bl_al (bl_al hA _) _) _) | exact (bl_dr (bl_al (bl_al (bl_al hA _) _) _)) | exact (bl_al (bl_al (bl_al (bl_al hA _) _) _) _) | exact (bl_dr (bl_al (bl_al (bl_al (bl_al hA _) _) _) _)) | exact (bl_al (bl_al (bl_al (bl_al (bl_al hA _) _) _) _) _) | exact (bl_dr (bl_al (bl_al (bl_al (bl_al (bl_al hA _) _) _) _) _)) | exact (bl_al (bl_al (bl_al (bl_al (bl_al (bl_al hA _) _) _) _) _) _) | exact (bl_dr (bl_al (bl_al (bl_al (bl_al (bl_al (bl_al hA _) _) _) _) _) _)) | exact (bl_dr hA)))).mono ?_
      rintro e w4 ⟨rfl, hb⟩
      have hk : Below w3.heap.size w3 w4 := by first | exact hb | exact bl_tr (bl_al (bl0 _) _) hb | exact bl_tr (bl_dr (bl_al (bl0 _) _)) hb | exact bl_tr (bl_al (bl_al (bl0 _) _) _) hb | exact bl_tr (bl_dr (bl_al (bl_al (bl0 _) _) _)) hb | exact bl_tr (bl_al (bl_al (bl_al (bl0 _) _) _) _) hb | exact bl_tr (bl_dr (bl_al (bl_al (bl_al (bl0 _) _) _) _)) hb | exact bl_tr (bl_al (bl_al (bl_al (bl_al (bl0 _) _) _) _) _) hb | exact bl_tr (bl_dr (bl_al (bl_al (bl_al (bl_al (bl0 _) _) _) _) _)) hb | exact bl_tr (bl_al (bl_al (bl_al (bl_al (bl_al (bl0 _) _) _) _) _) _) hb | exact bl_tr (bl_dr (bl_al (bl_al (bl_al (bl_al (bl_al (bl0 _) _) _) _) _) _)) hb | exact bl_tr (bl_al (bl_al (bl_al (bl_al (bl_al (bl_al (bl0 _) _) _) _) _) _) _) hb | exact bl_tr (bl_dr (bl_al (bl_al (bl_al (bl_al (bl_al (bl_al (bl0 _) _) _) _) _) _) _)) hb | exact bl_tr (bl_dr (bl0 _)) hb
      replace hA := bl_tr hA hk
      clear hb hk
      go_wp2
      go_ret
      exact ⟨rfl, hA⟩

set_option maxHeartbeats 1600000 in
theorem lwalk_any (W H X Y : Int) (a : Option Addr) (len cap : Nat) (zs : List Int) (w : World) (hs : Stp w) (hm : len ≤ 9223372036854775807) (hrow : Row w a len zs) :
    Calls Tryd.prog 9 #[.agg #[.int .i64 W, .int .i64 H], .agg #[.int .i64 X, .int .i64 Y], .slice a len cap] w fun e w' => e = .returned (.bool true) ∧ Below w.heap.size w w' := by
  cases hi : inB W H X Y
  · have hA := bl0 w
    go_enter Tryd.func9, Tryd.ntmps9
    go_wp2_with fail
    refine (in_any _ _ _ _ _).mono ?_
    rintro e w1 ⟨rfl, hb⟩
    have hk : Below w.heap.size w w1 := by first | exact hb | exact bl_tr (bl_al (bl0 _) _) hb | exact bl_tr (bl_dr (bl_al (bl0 _) _)) hb | exact bl_tr (bl_al (bl_al (bl0 _) _) _) hb | exact bl_tr (bl_dr (bl_al (bl_al (bl0 _) _) _)) hb | exact bl_tr (bl_al (bl_al (bl_al (bl0 _) _) _) _) hb | exact bl_tr (bl_dr (bl_al (bl_al (bl_al (bl0 _) _) _) _)) hb | exact bl_tr (bl_al (bl_al (bl_al (bl_al (bl0 _) _) _) _) _) hb | exact bl_tr (bl_dr (bl_al (bl_al (bl_al (bl_al (bl0 _) _) _) _) _)) hb | exact bl_tr (bl_al (bl_al (bl_al (bl_al (bl_al (bl0 _) _) _) _) _) _) hb | exact bl_tr (bl_dr (bl_al (bl_al (bl_al (bl_al (bl_al (bl0 _) _) _) _) _) _)) hb | exact bl_tr (bl_al (bl_al (bl_al (bl_al (bl_al (bl_al (bl0 _) _) _) _) _) _) _) hb | exact bl_tr (bl_dr (bl_al (bl_al (bl_al (bl_al (bl_al (bl_al (bl0 _) _) _) _) _) _) _)) hb | exact bl_tr (bl_dr (bl0 _)) hb
    replace hA := bl_tr hA hk
    clear hb hk
    go_wp2_with fail
    refine (awake_any _ (hs.below (by first | exact hA | exact (bl_al hA _) | exact (bl_dr (bl_al hA _)) | exact (bl_al (bl_al hA _) _) | exact (bl_dr (bl_al (bl_al hA _) _)) | exact (bl_al (bl_al (bl_al hA _) _) _) | exact (bl_dr (bl_al (bl_al (bl_al hA _) _) _)) | exact (bl_al (bl_al (bl_al (bl_al hA _) _) _) _) | exact (bl_dr (bl_al (bl_al (bl_al (bl_al hA _) _) _) _)) | exact (bl_al (bl_al (bl_al (bl_al (bl_al hA _) _) _) _) _) | exact (bl_dr (bl_al (bl_al (bl_al (bl_al (bl_al hA _) _) _) _) _)) | exact (bl_al (bl_al (bl_al (bl_al (bl_al (bl_al hA _) _) _) _) _) _) | exact (bl_dr (bl_al (bl_al (bl_al (bl_al (bl_al (bl_al hA _) _) _) _) _) _)) | exact (bl_dr hA)))).mono ?_
    rintro e w2 ⟨rfl, hb⟩
    have hk : Below w1.heap.size w1 w2 := by first | exact hb | exact bl_tr (bl_al (bl0 _) _) hb | exact bl_tr (bl_dr (bl_al (bl0 _) _)) hb | exact bl_tr (bl_al (bl_al (bl0 _) _) _) hb | exact bl_tr (bl_dr (bl_al (bl_al (bl0 _) _) _)) hb | exact bl_tr (bl_al (bl_al (bl_al (bl0 _) _) _) _) hb | exact bl_tr (bl_dr (bl_al (bl_al (bl_al (bl0 _) _) _) _)) hb | exact bl_tr (bl_al (bl_al (bl_al (bl_al (bl0 _) _) _) _) _) hb | exact bl_tr (bl_dr (bl_al (bl_al (bl_al (bl_al (bl0 _) _) _) _) _)) hb | exact bl_tr (bl_al (bl_al (bl_al (bl_al (bl_al (bl0 _) _) _) _) _) _) hb | exact bl_tr (bl_dr (bl_al (bl_al (bl_al (bl_al (bl_al (bl0 _) _) _) _) _) _)) hb | exact bl_tr (bl_al (bl_al (bl_al (bl_al (bl_al (bl_al (bl0 _) _) _) _) _) _) _) hb | exact bl_tr (bl_dr (bl_al (bl_al (bl_al (bl_al (bl_al (bl_al (bl0 _) _) _) _) _) _) _)) hb | exact bl_tr (bl_dr (bl0 _)) hb
    replace hA := bl_tr hA hk
    clear hb hk
    go_wp2
    go_ret
    exact ⟨rfl, hA⟩
  by_cases hl : len ≤ 300
  · exact lwalk_yes W H X Y a len cap zs w hs hi hl hrow
  · have hA := bl0 w
    have hl' : (300 : Int) < (len : Int) := by omega
    go_enter Tryd.func9, Tryd.ntmps9
    go_wp2_with fail
    refine (in_any _ _ _ _ _).mono ?_
    rintro e w1 ⟨rfl, hb⟩
    have hk : Below w.heap.size w w1 := by first | exact hb | exact bl_tr (bl_al (bl0 _) _) hb | exact bl_tr (bl_dr (bl_al (bl0 _) _)) hb | exact bl_tr (bl_al (bl_al (bl0 _) _) _) hb | exact bl_tr (bl_dr (bl_al (bl_al (bl0 _) _) _)) hb | exact bl_tr (bl_al (bl_al (bl_al (bl0 _) _) _) _) hb | exact bl_tr (bl_dr (bl_al (bl_al (bl_al (bl0 _) _) _) _)) hb | exact bl_tr (bl_al (bl_al (bl_al (bl_al (bl0 _) _) _) _) _) hb | exact bl_tr (bl_dr (bl_al (bl_al (bl_al (bl_al (bl0 _) _) _) _) _)) hb | exact bl_tr (bl_al (bl_al (bl_al (bl_al (bl_al (bl0 _) _) _) _) _) _) hb | exact bl_tr (bl_dr (bl_al (bl_al (bl_al (bl_al (bl_al (bl0 _) _) _) _) _) _)) hb | exact bl_tr (bl_al (bl_al (bl_al (bl_al (bl_al (bl_al (bl0 _) _) _) _) _) _) _) hb | exact bl_tr (bl_dr (bl_al (bl_al (bl_al (bl_al (bl_al (bl_al (bl0 _) _) _) _) _) _) _)) hb | exact bl_tr (bl_dr (bl0 _)) hb
    replace hA := bl_tr hA hk
    clear hb hk
    go_wp2_with fail
    refine (awake_any _ (hs.below (by first | exact hA | exact (bl_al hA _) | exact (bl_dr (bl_al hA _)) | exact (bl_al (bl_al hA _) _) | exact (bl_dr (bl_al (bl_al hA _) _)) | exact (bl_al (bl_al (bl_al hA _) _) _) | exact (bl_dr (bl_al (bl_al (bl_al hA _) _) _)) | exact (bl_al (bl_al (bl_al (bl_al hA _) _) _) _) | exact (bl_dr (bl_al (bl_al (bl_al (bl_al hA _) _) _) _)) | exact (bl_al (bl_al (bl_al (bl_al (bl_al hA _) _) _) _) _) | exact (bl_dr (bl_al (bl_al (bl_al (bl_al (bl_al hA _) _) _) _) _)) | exact (bl_al (bl_al (bl_al (bl_al (bl_al (bl_al hA _) _) _) _) _) _) | exact (bl_dr (bl_al (bl_al (bl_al (bl_al (bl_al (bl_al hA _) _) _) _) _) _)) | exact (bl_dr hA)))).mono ?_
    rintro e w2 ⟨rfl, hb⟩
    have hk : Below w1.heap.size w1 w2 := by first | exact hb | exact bl_tr (bl_al (bl0 _) _) hb | exact bl_tr (bl_dr (bl_al (bl0 _) _)) hb | exact bl_tr (bl_al (bl_al (bl0 _) _) _) hb | exact bl_tr (bl_dr (bl_al (bl_al (bl0 _) _) _)) hb | exact bl_tr (bl_al (bl_al (bl_al (bl0 _) _) _) _) hb | exact bl_tr (bl_dr (bl_al (bl_al (bl_al (bl0 _) _) _) _)) hb | exact bl_tr (bl_al (bl_al (bl_al (bl_al (bl0 _) _) _) _) _) hb | exact bl_tr (bl_dr (bl_al (bl_al (bl_al (bl_al (bl0 _) _) _) _) _)) hb | exact bl_tr (bl_al (bl_al (bl_al (bl_al (bl_al (bl0 _) _) _) _) _) _) hb | exact bl_tr (bl_dr (bl_al (bl_al (bl_al (bl_al (bl_al (bl0 _) _) _) _) _) _)) hb | exact bl_tr (bl_al (bl_al (bl_al (bl_al (bl_al (bl_al (bl0 _) _) _) _) _) _) _) hb | exact bl_tr (bl_dr (bl_al (bl_al (bl_al (bl_al (bl_al (bl_al (bl0 _) _) _) _) _) _) _)) hb | exact bl_tr (bl_dr (bl0 _)) hb
    replace hA := bl_tr hA hk
    clear hb hk
    go_wp2
    go_ret
    exact ⟨rfl, hA⟩
end Go.Proofs.YtdacoeehhpnkbaaDoor
