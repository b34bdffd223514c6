/- Package geom: contracts of Dir. -/
import Derived.Test.YtldpajfendkhbaaDoorGe
import Derived.Deep.LoopGhost
namespace Go.Proofs.YtldpajfendkhbaaDoor
open Go.RowKit

def dirI (dx dy : Int) : Int := if dx = 0 ∧ dy = -1 then 0 else if dx = 1 ∧ dy = 0 then 1 else if dx = 0 ∧ dy = 1 then 2 else if dx = -1 ∧ dy = 0 then 3 else -1

def NoD (k : Nat) (dx dy : Int) : Prop := (0 < k → ¬ (dx = 0 ∧ dy = -1)) ∧ (1 < k → ¬ (dx = 1 ∧ dy = 0)) ∧ (2 < k → ¬ (dx = 0 ∧ dy = 1)) ∧ (3 < k → ¬ (dx = -1 ∧ dy = 0))
theorem tab_0 (w : World) : (Instr.index 94 (.agg #[.int .i64 0, .int .i64 (-1), .int .i64 1, .int .i64 0, .int .i64 0, .int .i64 1, .int .i64 (-1), .int .i64 0]) (.int .i64 0)).run Tryd.prog w = .ok (.agg #[.int .i64 0, .int .i64 (-1)]) w := by kernel_rfl
theorem tab_1 (w : World) : (Instr.index 94 (.agg #[.int .i64 0, .int .i64 (-1), .int .i64 1, .int .i64 0, .int .i64 0, .int .i64 1, .int .i64 (-1), .int .i64 0]) (.int .i64 1)).run Tryd.prog w = .ok (.agg #[.int .i64 1, .int .i64 0]) w := by kernel_rfl
theorem tab_2 (w : World) : (Instr.index 94 (.agg #[.int .i64 0, .int .i64 (-1), .int .i64 1, .int .i64 0, .int .i64 0, .int .i64 1, .int .i64 (-1), .int .i64 0]) (.int .i64 2)).run Tryd.prog w = .ok (.agg #[.int .i64 0, .int .i64 1]) w := by kernel_rfl
theorem tab_3 (w : World) : (Instr.index 94 (.agg #[.int .i64 0, .int .i64 (-1), .int .i64 1, .int .i64 0, .int .i64 0, .int .i64 1, .int .i64 (-1), .int .i64 0]) (.int .i64 3)).run Tryd.prog w = .ok (.agg #[.int .i64 (-1), .int .i64 0]) w := by kernel_rfl

set_option maxHeartbeats 400000 in
theorem dir_no (X Y Z V : Int) (w : World) (hp : (plainB X Y && plainB Z V) = false) :
    Calls Tryd.prog 31 #[.agg #[.int .i64 X, .int .i64 Y], .agg #[.int .i64 Z, .int .i64 V]] w fun e w' => e = .returned (.tuple #[.int .i64 0, .int .i64 10]) ∧ Below w.heap.size w w' := by
  cases h1 : plainB X Y <;> cases h2 : plainB Z V <;> simp [h1, h2] at hp
  all_goals
    go_enter Tryd.func31, Tryd.ntmps31
    go_wp2_with (go_at_call 48; refine (plain_any _ _ _).mono ?_; rintro e w' ⟨rfl, hb⟩; obtain ⟨hc, hf⟩ := bcell hb)
    go_ret2
    first
    | exact ⟨rfl, bl_tr (bl_al (bl_al (bl0 _) _) _) hb⟩
    | exact ⟨rfl, bl_tr (bl_tr (bl_al (bl_al (bl0 _) _) _) (by assumption)) hb⟩

def dirN (dx dy : Int) : Int := if dirI dx dy = -1 then 0 else dirI dx dy
def dirE (dx dy : Int) : Int := if dirI dx dy = -1 then 1 else 0
theorem dir_nonE {dx dy : Int} (h : NoD 4 dx dy) : dirI dx dy = -1 := by
  obtain ⟨h0, h1, h2, h3⟩ := h
  have h0 := h0 (by decide)
  have h1 := h1 (by decide)
  have h2 := h2 (by decide)
  have h3 := h3 (by decide)
  unfold dirI
  rw [if_neg h0, if_neg h1, if_neg h2, if_neg h3]
theorem dir_noneN {dx dy : Int} (h : NoD 4 dx dy) : (0 : Int) = dirN dx dy := by simp [dirN, dir_nonE h]
theorem dir_noneE {dx dy : Int} (h : NoD 4 dx dy) : (1 : Int) = dirE dx dy := by simp [dirE, dir_nonE h]

set_option maxHeartbeats 1600000 in
theorem dir_core (X Y Z V dx dy : Int) (w : World) (hs : Stp w) (hp : plainB X Y = true) (hq : plainB Z V = true) (hdx : Z - X = dx) (hdy : V - Y = dy) :
    Calls Tryd.prog 31 #[.agg #[.int .i64 X, .int .i64 Y], .agg #[.int .i64 Z, .int .i64 V]] w fun e w' => e = .returned (.tuple #[.int .i64 (dirN dx dy), .int .i64 (dirE dx dy)]) ∧ Below w.heap.size w w' := by
  obtain ⟨a1, a2, a3, a4⟩ := plainB_iff.1 hp
  obtain ⟨b1, b2, b3, b4⟩ := plainB_iff.1 hq
  have hA := bl0 w
  go_enter Tryd.func31, Tryd.ntmps31
  go_wp2_with fail
  refine (plain_any _ _ _).mono ?_
  rintro e w1 ⟨rfl, hb⟩
  have hk : Below w.heap.size w w1 := by first | exact hb | exact bl_tr (bl_al (bl0 _) _) hb | exact bl_tr (bl_dr (bl_al (bl0 _) _)) hb | exact bl_tr (bl_al (bl_al (bl0 _) _) _) hb | exact bl_tr (bl_dr (bl_al (bl_al (bl0 _) _) _)) hb | exact bl_tr (bl_al (bl_al (bl_al (bl0 _) _) _) _) hb | exact bl_tr (bl_dr (bl_al (bl_al (bl_al (bl0 _) _) _) _)) hb | exact bl_tr (bl_al (bl_al (bl_al (bl_al (bl0 _) _) _) _) _) hb | exact bl_tr (bl_dr (bl_al (bl_al (bl_al (bl_al (bl0 _) _) _) _) _)) hb | exact bl_tr (bl_al (bl_al (bl_al (bl_al (bl_al (bl0 _) _) _) _) _) _) hb | exact bl_tr (bl_dr (bl_al (bl_al (bl_al (bl_al (bl_al (bl0 _) _) _) _) _) _)) hb | exact bl_tr (bl_al (bl_al (bl_al (bl_al (bl_al (bl_al (bl0 _) _) _) _) _) _) _) hb | exact bl_tr (bl_dr (bl_al (bl_al (bl_al (bl_al (bl_al (bl_al (bl0 _) _) _) _) _) _) _)) hb | exact bl_tr (bl_dr (bl0 _)) hb
  replace hA := bl_tr hA hk
  have a0 := cell_later hb (v := .int .i64 X) (a := ⟨w.heap.size, 0, none⟩) (by simp [go_sem])
  have a1 := cell_later hb (v := .int .i64 Y) (a := ⟨w.heap.size, 1, none⟩) (by simp [go_sem])
  have c0 := cell_later hb (v := .int .i64 Z) (a := ⟨w.heap.size + 1, 0, none⟩) (by simp [go_sem])
  have c1 := cell_later hb (v := .int .i64 V) (a := ⟨w.heap.size + 1, 1, none⟩) (by simp [go_sem])
  clear hb hk
  have za0 := blk_lt a0
  have za1 := blk_lt a1
  have zc0 := blk_lt c0
  have zc1 := blk_lt c1
  go_wp2_with fail
  refine (plain_any _ _ _).mono ?_
  rintro e w2 ⟨rfl, hb⟩
  have hk : Below w1.heap.size w1 w2 := by first | exact hb | exact bl_tr (bl_al (bl0 _) _) hb | exact bl_tr (bl_dr (bl_al (bl0 _) _)) hb | exact bl_tr (bl_al (bl_al (bl0 _) _) _) hb | exact bl_tr (bl_dr (bl_al (bl_al (bl0 _) _) _)) hb | exact bl_tr (bl_al (bl_al (bl_al (bl0 _) _) _) _) hb | exact bl_tr (bl_dr (bl_al (bl_al (bl_al (bl0 _) _) _) _)) hb | exact bl_tr (bl_al (bl_al (bl_al (bl_al (bl0 _) _) _) _) _) hb | exact bl_tr (bl_dr (bl_al (bl_al (bl_al (bl_al (bl0 _) _) _) _) _)) hb | exact bl_tr (bl_al (bl_al (bl_al (bl_al (bl_al (bl0 _) _) _) _) _) _) hb | exact bl_tr (bl_dr (bl_al (bl_al (bl_al (bl_al (bl_al (bl0 _) _) _) _) _) _)) hb | exact bl_tr (bl_al (bl_al (bl_al (bl_al (bl_al (bl_al (bl0 _) _) _) _) _) _) _) hb | exact bl_tr (bl_dr (bl_al (bl_al (bl_al (bl_al (bl_al (bl_al (bl0 _) _) _) _) _) _) _)) hb | exact bl_tr (bl_dr (bl0 _)) hb
  replace hA := bl_tr hA hk
  replace a0 := cell_later hk a0
  replace a1 := cell_later hk a1
  replace c0 := cell_later hk c0
  replace c1 := cell_later hk c1
  clear hb hk
  have za0 := blk_lt a0
  have za1 := blk_lt a1
  have zc0 := blk_lt c0
  have zc1 := blk_lt c1
  obtain ⟨hz, s0, s1, s2, s3, s4, s5, s6, s7⟩ := hs.below hA
  go_wp2
  have hA2 := bl_al hA (.cells #[.int .i64 dx, .int .i64 dy] 28)
  go_loopw [29] (fun i wr => ∃ k : Nat, k ≤ 4 ∧ i = .int .i64 k ∧ Below w.heap.size w wr ∧ wr.cell? ⟨w2.heap.size, 0, none⟩ = some (.int .i64 dx) ∧ wr.cell? ⟨w2.heap.size, 1, none⟩ = some (.int .i64 dy) ∧ NoD k dx dy) (fun i _ => 4 - (intOf i).toNat)
  case atStart => exact ⟨0, by omega, rfl, hA2, by simp [go_sem], by simp [go_sem], by simp [NoD]⟩
  case round =>
    obtain ⟨k, hk, rfl, hB, q0, q1, hno⟩ := hrel
    clear hA hA2 a0 a1 c0 c1 s0 s1 s2 s3 s4 s5 s6 s7 hz hdx hdy
    have zq := blk_lt q0
    obtain rfl | rfl | rfl | rfl | rfl : k = 0 ∨ k = 1 ∨ k = 2 ∨ k = 3 ∨ k = 4 := by omega
    · have i0 := tab_0
      by_cases h0 : dx = 0
      · subst h0
        by_cases h1 : dy = -1
        · subst h1
          go_wp2
          go_ret2
          exact ⟨ret_ii (by decide) (by decide), bl_al hB _⟩
        · have h1' : ((-1 : Int) == dy) = false := by simp; omega
          go_wp2
          go_roundw
          case rel => exact ⟨1, by omega, rfl, bl_al hB _, by simp [go_sem, zq, q0], by simp [go_sem, zq, q1], by unfold NoD at hno ⊢; omega⟩
          case measure => simp [intOf]

      · have h0' : ((0 : Int) == dx) = false := by simp; omega
        go_wp2
        go_roundw
        case rel => exact ⟨1, by omega, rfl, bl_al hB _, by simp [go_sem, zq, q0], by simp [go_sem, zq, q1], by unfold NoD at hno ⊢; omega⟩
        case measure => simp [intOf]
    · have i0 := tab_1
      by_cases h0 : dx = 1
      · subst h0
        by_cases h1 : dy = 0
        · subst h1
          go_wp2
          go_ret2
          exact ⟨ret_ii (by decide) (by decide), bl_al hB _⟩
        · have h1' : ((0 : Int) == dy) = false := by simp; omega
          go_wp2
          go_roundw
          case rel => exact ⟨2, by omega, rfl, bl_al hB _, by simp [go_sem, zq, q0], by simp [go_sem, zq, q1], by unfold NoD at hno ⊢; omega⟩
          case measure => simp [intOf]

      · have h0' : ((1 : Int) == dx) = false := by simp; omega
        go_wp2
        go_roundw
        case rel => exact ⟨2, by omega, rfl, bl_al hB _, by simp [go_sem, zq, q0], by simp [go_sem, zq, q1], by unfold NoD at hno ⊢; omega⟩
        case measure => simp [intOf]
    · have i0 := tab_2
      by_cases h0 : dx = 0
      · subst h0
        by_cases h1 : dy = 1
        · subst h1
          go_wp2
          go_ret2
          exact ⟨ret_ii (by decide) (by decide), bl_al hB _⟩
        · have h1' : ((1 : Int) == dy) = false := by simp; omega
          go_wp2
          go_roundw
          case rel => exact ⟨3, by omega, rfl, bl_al hB _, by simp [go_sem, zq, q0], by simp [go_sem, zq, q1], by unfold NoD at hno ⊢; omega⟩
          case measure => simp [intOf]

      · have h0' : ((0 : Int) == dx) = false := by simp; omega
        go_wp2
        go_roundw
        case rel => exact ⟨3, by omega, rfl, bl_al hB _, by simp [go_sem, zq, q0], by simp [go_sem, zq, q1], by unfold NoD at hno ⊢; omega⟩
        case measure => simp [intOf]
    · have i0 := tab_3
      by_cases h0 : dx = -1
      · subst h0
        by_cases h1 : dy = 0
        · subst h1
          go_wp2
          go_ret2
          exact ⟨ret_ii (by decide) (by decide), bl_al hB _⟩
        · have h1' : ((0 : Int) == dy) = false := by simp; omega
          go_wp2
          go_roundw
          case rel => exact ⟨4, by omega, rfl, bl_al hB _, by simp [go_sem, zq, q0], by simp [go_sem, zq, q1], by unfold NoD at hno ⊢; omega⟩
          case measure => simp [intOf]

      · have h0' : ((-1 : Int) == dx) = false := by simp; omega
        go_wp2
        go_roundw
        case rel => exact ⟨4, by omega, rfl, bl_al hB _, by simp [go_sem, zq, q0], by simp [go_sem, zq, q1], by unfold NoD at hno ⊢; omega⟩
        case measure => simp [intOf]
    · go_wp2
      go_ret2
      exact ⟨ret_ii (dir_noneN hno) (dir_noneE hno), hB⟩

theorem dir_yes (X Y Z V : Int) (w : World) (hs : Stp w) (hp : plainB X Y = true) (hq : plainB Z V = true) :
    Calls Tryd.prog 31 #[.agg #[.int .i64 X, .int .i64 Y], .agg #[.int .i64 Z, .int .i64 V]] w fun e w' => e = .returned (.tuple #[.int .i64 (dirN (Z - X) (V - Y)), .int .i64 (dirE (Z - X) (V - Y))]) ∧ Below w.heap.size w w' :=
  dir_core X Y Z V _ _ w hs hp hq rfl rfl
end Go.Proofs.YtldpajfendkhbaaDoor
