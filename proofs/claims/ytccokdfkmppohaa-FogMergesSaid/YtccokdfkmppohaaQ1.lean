/- Texts joined: Ga, Gb, Ra, Vf, Vg, Va, Wb, Ro, Wr, Shelf, Ka, Km, Kb, Oh, Ta, Tb, Tc, Gc, Wa, Wc, Wd, Os, We, Wf, Wg, Wh, Wi, Wj, Wk, Wl, Kc, Kd, Ke, Kf, Kn, Jm, Ja, Jt, Jb, Jc, Jn, Gd, Ia, Ib, Im, In, Sa, Sb, Sc, Sd, Se, Sf, Sg, Sh, Sj. -/
import Derived.Test.YtccokdfkmppohaaProg
import Derived.WalkKit
import Derived.WalkSpells
import Derived.WalkLawsBesides
import Derived.Deep.QuietTactic
import Derived.BigQuiet
import Derived.BigRegion
import Derived.OwnWalk
import Derived.Laws.OwnMore
import Derived.Lib.Hide
import Derived.RangeFuncNested
import Derived.RangeFuncBound
import Derived.RangeFuncBox
import Derived.RangeFuncCalls
import Derived.RangeFuncLeaves
import Derived.Shelf.Abstract
import Derived.Shelf.RegionOpen
import Derived.OwnWalkIn
import Derived.TacticsInMore
import Derived.LoopNIn
import Derived.LoopIn
import Derived.Shelf.Small.Bits
import Derived.WalkSmall
import Derived.Deep.RegionHeld3
import Derived.Deep.CutRange
import Derived.Laws.AppendOwn
import Derived.Laws.Rows
import Derived.OrdersHeld
import Derived.OrdersIn
import Derived.LoopTactic
import Derived.Laws.MakeOwn
import Derived.Deep.OwnRows
import Derived.Laws.CopyOwn
/- Package geom: contracts of its plain functions: what each answers, and that it leaves what was in memory as it was. -/
namespace Go.Proofs.Ytccokdfkmppohaa
open Go.RowKit

theorem ret_bool {a b : Bool} (h : a = b) : Ending.returned (.bool a) = .returned (.bool b) := by rw [h]
theorem ret_int {k : IntKind} {a b : Int} (h : a = b) : Ending.returned (.int k a) = .returned (.int k b) := by rw [h]
theorem bcell {W w1 : World} (hb : Below W.heap.size W w1) : (∀ b o, b < W.heap.size → w1.cell? ⟨b, o, none⟩ = W.cell? ⟨b, o, none⟩) ∧ (∀ b o, b < W.heap.size → w1.frozen? ⟨b, o, none⟩ = W.frozen? ⟨b, o, none⟩) :=
  ⟨fun b o h => hb.cell (p := ⟨b, o, none⟩) h, fun b o h => hb.frozen (p := ⟨b, o, none⟩) h⟩

theorem bl0 (w : World) : Below w.heap.size w w := Below.refl _ _
theorem bl_al {w a : World} (h : Below w.heap.size w a) (o : Obj) : Below w.heap.size w (a.alloc o) := h.alloc h.size o
theorem bl_tr {w a b : World} (h : Below w.heap.size w a) (k : Below a.heap.size a b) : Below w.heap.size w b := h.trans (k.mono h.size)
theorem bl_set {w a : World} (h : Below w.heap.size w a) {p : Addr} (hp : w.heap.size ≤ p.block) (u : Value) : Below w.heap.size w (a.setCell p u) := h.setCell hp u
theorem bl_st {w a : World} (h : Below w.heap.size w a) {b o : Nat} (hp : w.heap.size ≤ b) (u : Value) : Below w.heap.size w (a.setCell ⟨b, o, none⟩ u) := h.setCell (p := ⟨b, o, none⟩) hp u
theorem bl_dr {w a : World} (h : Below w.heap.size w a) : Below w.heap.size w a.drew := h.drew
theorem bl_drn (w : World) (n : Nat) : Below w.heap.size w (w.drewN n) := ⟨rfl, rfl, rfl, Nat.le_refl _, fun _ _ => rfl⟩
theorem blk_lt {w : World} {b o : Nat} {v : Value} (h : w.cell? ⟨b, o, none⟩ = some v) : b < w.heap.size := World.block_lt_of_cell? _ _ h
theorem frozen_later {V w : World} (hb : Below V.heap.size V w) {b o : Nat} {v : Value} (h : V.cell? ⟨b, o, none⟩ = some v) (hf : V.frozen? ⟨b, o, none⟩ = false) : w.frozen? ⟨b, o, none⟩ = false :=
  (hb.frozen (p := ⟨b, o, none⟩) (blk_lt h)).trans hf
def mayB (W H : Int) : Bool := decide (1 ≤ W ∧ W ≤ 256 ∧ 1 ≤ H ∧ H ≤ 256)
def inB (W H X Y : Int) : Bool := decide (1 ≤ W ∧ W ≤ 256 ∧ 1 ≤ H ∧ H ≤ 256 ∧ 0 ≤ X ∧ X < W ∧ 0 ≤ Y ∧ Y < H)
def nearB (n : Int) : Bool := decide (-1048576 ≤ n ∧ n ≤ 1048576)
def plainB (X Y : Int) : Bool := decide (-1048576 ≤ X ∧ X ≤ 1048576 ∧ -1048576 ≤ Y ∧ Y ≤ 1048576)
theorem mayB_iff {W H : Int} : mayB W H = true ↔ 1 ≤ W ∧ W ≤ 256 ∧ 1 ≤ H ∧ H ≤ 256 := by simp [mayB]
theorem inB_iff {W H X Y : Int} : inB W H X Y = true ↔ 1 ≤ W ∧ W ≤ 256 ∧ 1 ≤ H ∧ H ≤ 256 ∧ 0 ≤ X ∧ X < W ∧ 0 ≤ Y ∧ Y < H := by simp [inB]
theorem nearB_iff {n : Int} : nearB n = true ↔ -1048576 ≤ n ∧ n ≤ 1048576 := by simp [nearB]
theorem plainB_iff {X Y : Int} : plainB X Y = true ↔ -1048576 ≤ X ∧ X ≤ 1048576 ∧ -1048576 ≤ Y ∧ Y ≤ 1048576 := by simp [plainB]


set_option maxHeartbeats 400000 in
theorem may_any (W H : Int) (w : World) :
    Calls Try.prog 25 #[.agg #[.int .i64 W, .int .i64 H]] w fun e w' => e = .returned (.bool (mayB W H)) ∧ Below w.heap.size w w' := by
  go_enter Try.func25, Try.ntmps25
  go_wp2
  all_goals
    go_ret
    exact ⟨ret_bool (by rw [Bool.eq_iff_iff]; simp [mayB]; try omega), (Below.refl _ _).alloc (Nat.le_refl _) _⟩

set_option maxHeartbeats 400000 in
theorem in_any (W H X Y : Int) (w : World) :
    Calls Try.prog 40 #[.agg #[.int .i64 W, .int .i64 H], .agg #[.int .i64 X, .int .i64 Y]] w fun e w' => e = .returned (.bool (inB W H X Y)) ∧ Below w.heap.size w w' := by
  by_cases hm : mayB W H = true
  all_goals
    go_enter Try.func40, Try.ntmps40
    go_wp2_with (go_at_call 25; refine (may_any _ _ _).mono ?_; rintro e w' ⟨rfl, hb⟩; obtain ⟨hc, hf⟩ := bcell hb)
    all_goals
      go_ret
      refine ⟨ret_bool (by rw [Bool.eq_iff_iff]; have hm' := @mayB_iff W H; simp_all [inB] <;> omega), ?_⟩
      exact bl_tr (bl_al (bl_al (bl0 _) _) _) hb


end Go.Proofs.Ytccokdfkmppohaa

/- Package geom: contracts of Index, At, Far, Walk, boxes. -/
namespace Go.Proofs.Ytccokdfkmppohaa
open Go.RowKit

theorem mul_bd {Y W : Int} (h1 : 0 ≤ Y) (h2 : Y ≤ 255) (h3 : 1 ≤ W) (h4 : W ≤ 256) : 0 ≤ Y * W ∧ Y * W ≤ 65280 := by
  constructor
  · exact Int.mul_nonneg h1 (by omega)
  · have a : Y * W ≤ 255 * W := Int.mul_le_mul_of_nonneg_right h2 (by omega)
    omega

set_option maxHeartbeats 400000 in
theorem index_no (W H X Y : Int) (w : World) (hi : inB W H X Y = false) :
    Calls Try.prog 32 #[.agg #[.int .i64 W, .int .i64 H], .agg #[.int .i64 X, .int .i64 Y]] w fun e w' => e = .returned (.tuple #[.int .i64 0, .int .i64 10]) ∧ Below w.heap.size w w' := by
  go_enter Try.func32, Try.ntmps32
  go_wp2_with (go_at_call 40; refine (in_any _ _ _ _ _).mono ?_; rintro e w' ⟨rfl, hb⟩; obtain ⟨hc, hf⟩ := bcell hb)
  go_ret2
  exact ⟨rfl, bl_tr (bl_al (bl_al (bl0 _) _) _) hb⟩

set_option maxHeartbeats 400000 in
theorem index_yes (W H X Y : Int) (w : World) (hi : inB W H X Y = true) :
    Calls Try.prog 32 #[.agg #[.int .i64 W, .int .i64 H], .agg #[.int .i64 X, .int .i64 Y]] w fun e w' => e = .returned (.tuple #[.int .i64 (Y * W + X), .int .i64 0]) ∧ Below w.heap.size w w' := by
  obtain ⟨h1, h2, h3, h4, h5, h6, h7, h8⟩ := inB_iff.1 hi
  obtain ⟨m1, m2⟩ := mul_bd h7 (by omega) h1 h2
  go_enter Try.func32, Try.ntmps32
  go_wp2_with (go_at_call 40; refine (in_any _ _ _ _ _).mono ?_; rintro e w' ⟨rfl, hb⟩; obtain ⟨hc, hf⟩ := bcell hb)
  go_ret2
  exact ⟨rfl, bl_tr (bl_al (bl_al (bl0 _) _) _) hb⟩

def atB (W H i : Int) : Bool := decide (1 ≤ W ∧ W ≤ 256 ∧ 1 ≤ H ∧ H ≤ 256 ∧ 0 ≤ i ∧ i < W * H)
theorem atB_iff {W H i : Int} : atB W H i = true ↔ 1 ≤ W ∧ W ≤ 256 ∧ 1 ≤ H ∧ H ≤ 256 ∧ 0 ≤ i ∧ i < W * H := by simp [atB]

set_option maxHeartbeats 400000 in
theorem at_yes (W H i : Int) (w : World) (hi : atB W H i = true) :
    Calls Try.prog 34 #[.agg #[.int .i64 W, .int .i64 H], .int .i64 i] w fun e w' => e = .returned (.tuple #[.agg #[.int .i64 (i % W), .int .i64 (i / W)], .int .i64 0]) ∧ Below w.heap.size w w' := by
  obtain ⟨h1, h2, h3, h4, h5, h6⟩ := atB_iff.1 hi
  obtain ⟨m1, m2⟩ : 0 ≤ W * H ∧ W * H ≤ 65536 := ⟨Int.mul_nonneg (by omega) (by omega), by have a : W * H ≤ 256 * H := Int.mul_le_mul_of_nonneg_right h2 (by omega); omega⟩
  have hm : mayB W H = true := mayB_iff.2 ⟨h1, h2, h3, h4⟩
  have hz : (W == 0) = false := by simp; omega
  go_enter Try.func34, Try.ntmps34
  go_wp2_with (go_at_call 25; refine (may_any _ _ _).mono ?_; rintro e w' ⟨rfl, hb⟩; obtain ⟨hc, hf⟩ := bcell hb)
  go_region
  all_goals go_wp2
  have q0 : w'.cell? ⟨w.heap.size + 1, 0, none⟩ = some (.int .i64 0) := (hc _ _ (by simp)).trans (by simp [go_sem])
  have q1 : w'.cell? ⟨w.heap.size + 1, 1, none⟩ = some (.int .i64 0) := (hc _ _ (by simp)).trans (by simp [go_sem])
  clear hc hf
  refine bodyPost_ret (v := .tuple #[.agg #[.int .i64 (i % W), .int .i64 (i / W)], .int .i64 0]) (by simp [results, Try.results34, go_sem, q0, q1]) rfl ⟨rfl, ?_⟩
  exact bl_dr (bl_st (bl_st (bl_tr (bl_al (bl_al (bl0 _) _) _) hb) (by omega) _) (by omega) _)
end Go.Proofs.Ytccokdfkmppohaa

/- The document's answers for geom: contracts of the reference's plain functions. -/
namespace Go.Proofs.Ytccokdfkmppohaa
open Go.RowKit

set_option maxHeartbeats 400000 in
theorem rmay_any (W H : Int) (w : World) :
    Calls Try.prog 26 #[.agg #[.int .i64 W, .int .i64 H]] w fun e w' => e = .returned (.bool (mayB W H)) ∧ Below w.heap.size w w' := by
  go_enter Try.func26, Try.ntmps26
  go_wp2
  all_goals
    go_ret
    exact ⟨ret_bool (by rw [Bool.eq_iff_iff]; simp [mayB]; try omega), bl_al (bl0 _) _⟩

set_option maxHeartbeats 400000 in
theorem rin_any (W H X Y : Int) (w : World) :
    Calls Try.prog 15 #[.agg #[.int .i64 W, .int .i64 H], .agg #[.int .i64 X, .int .i64 Y]] w fun e w' => e = .returned (.bool (inB W H X Y)) ∧ Below w.heap.size w w' := by
  by_cases hm : mayB W H = true
  all_goals
    go_enter Try.func15, Try.ntmps15
    go_wp2_with (go_at_call 26; refine (rmay_any _ _ _).mono ?_; rintro e w' ⟨rfl, hb⟩; obtain ⟨hc, hf⟩ := bcell hb)
    all_goals
      go_ret
      refine ⟨ret_bool (by rw [Bool.eq_iff_iff]; have hm' := @mayB_iff W H; simp_all [inB] <;> omega), ?_⟩
      exact bl_tr (bl_al (bl_al (bl0 _) _) _) hb




end Go.Proofs.Ytccokdfkmppohaa

/- Rows of costs in memory; whether a field is right, whether two are the same. -/
namespace Go.Proofs.Ytccokdfkmppohaa
open Go.RowKit

/-- A row of costs in memory. -/
def RowH (W : World) (a : Option Addr) (zs : List Int) : Prop :=
  zs = [] ∨ ∃ b o, a = some ⟨b, o, none⟩ ∧ ∀ i z, zs[i]? = some z → W.cell? ⟨b, o + i, none⟩ = some (.int .u16 z)
theorem RowH.below {W W' : World} {a : Option Addr} {zs : List Int} (h : RowH W a zs) (hb : Below W.heap.size W W') : RowH W' a zs := by
  rcases h with h | ⟨b, o, h1, h2⟩
  · exact .inl h
  · exact .inr ⟨b, o, h1, fun i z hz => cell_later hb (h2 i z hz)⟩
theorem RowH.cell {W : World} {a : Option Addr} {zs : List Int} (h : RowH W a zs) {k : Nat} (hk : k < zs.length) : ∃ b o, a = some ⟨b, o, none⟩ ∧ W.cell? ⟨b, o + k, none⟩ = some (.int .u16 zs[k]) := by
  rcases h with rfl | ⟨b, o, h1, h2⟩
  · simp at hk
  · exact ⟨b, o, h1, h2 k _ (List.getElem?_eq_getElem hk)⟩
def inH (z : Int) : Prop := 0 ≤ z ∧ z ≤ 65535
def AllH (zs : List Int) : Prop := ∀ z ∈ zs, inH z
theorem AllH.at {l : List Int} (h : AllH l) {k : Nat} (hk : k < l.length) : inH l[k] := h _ (List.getElem_mem hk)

theorem take_same {xs ys : List Int} {k : Nat} (hk : k < xs.length) (hk2 : k < ys.length) (h : xs.take k = ys.take k) (e : xs[k] = ys[k]) : xs.take (k + 1) = ys.take (k + 1) := by
  rw [List.take_succ_eq_append_getElem hk, List.take_succ_eq_append_getElem hk2, h, e]
theorem take_all {xs ys : List Int} {k : Nat} (h1 : xs.length ≤ k) (h2 : xs.length = ys.length) (h : xs.take k = ys.take k) : xs = ys := by
  rw [List.take_of_length_le h1, List.take_of_length_le (by omega)] at h
  exact h
theorem not_same_at {xs ys : List Int} {k : Nat} (hk : k < xs.length) (hk2 : k < ys.length) (e : xs[k] ≠ ys[k]) : xs ≠ ys := by
  rintro rfl
  exact e rfl


/-- Whether a field is right. -/
def chkF (W H n : Int) : Int := if mayB W H then (if n = W * H then 0 else 12) else 10
theorem area_bd {W H : Int} (h : mayB W H = true) : 1 ≤ W * H ∧ W * H ≤ 65536 := by
  obtain ⟨h1, h2, h3, h4⟩ := mayB_iff.1 h
  refine ⟨?_, by have a : W * H ≤ 256 * H := Int.mul_le_mul_of_nonneg_right h2 (by omega); omega⟩
  have := Int.mul_le_mul h1 h3 (by omega) (by omega)
  omega
set_option maxHeartbeats 2000000 in
theorem check_any (W H : Int) (a : Option Addr) (n c : Nat) (w : World) :
    Calls Try.prog 29 #[.agg #[.int .i64 W, .int .i64 H, .slice a n c]] w fun e w' => e = .returned (.int .i64 (chkF W H n)) ∧ Below w.heap.size w w' := by
  cases hm : mayB W H
  · have hc : chkF W H n = 10 := by unfold chkF; rw [if_neg (by rw [hm]; decide)]
    rw [hc]
    clear hc
    go_enter Try.func29, Try.ntmps29
    go_wp2_with (go_at_call 25; refine (may_any _ _ _).mono ?_; rintro e w' ⟨rfl, hb⟩; obtain ⟨hcc, hf⟩ := bcell hb)
    go_ret
    exact ⟨rfl, bl_tr (bl_al (bl0 _) _) hb⟩
  · obtain ⟨b1, b2⟩ := area_bd hm
    by_cases hn : (n : Int) = W * H
    · have hc : chkF W H n = 0 := by unfold chkF; rw [if_pos hm, if_pos hn]
      have hn2 : ((n : Int) != W * H) = false := by rw [bne_eq_false_iff_eq]; exact hn
      rw [hc]
      clear hc hn
      go_enter Try.func29, Try.ntmps29
      go_wp2_with (go_at_call 25; refine (may_any _ _ _).mono ?_; rintro e w' ⟨rfl, hb⟩; obtain ⟨hcc, hf⟩ := bcell hb)
      go_ret
      exact ⟨rfl, bl_tr (bl_al (bl0 _) _) hb⟩
    · have hc : chkF W H n = 12 := by unfold chkF; rw [if_pos hm, if_neg hn]
      have hn2 : ((n : Int) != W * H) = true := by rw [bne_iff_ne]; exact hn
      rw [hc]
      clear hc hn
      go_enter Try.func29, Try.ntmps29
      go_wp2_with (go_at_call 25; refine (may_any _ _ _).mono ?_; rintro e w' ⟨rfl, hb⟩; obtain ⟨hcc, hf⟩ := bcell hb)
      go_ret
      exact ⟨rfl, bl_tr (bl_al (bl0 _) _) hb⟩

set_option maxHeartbeats 2000000 in
theorem rcheck_any (W H : Int) (a : Option Addr) (n c : Nat) (w : World) :
    Calls Try.prog 33 #[.agg #[.int .i64 W, .int .i64 H, .slice a n c]] w fun e w' => e = .returned (.int .i64 (chkF W H n)) ∧ Below w.heap.size w w' := by
  cases hm : mayB W H
  · have hc : chkF W H n = 10 := by unfold chkF; rw [if_neg (by rw [hm]; decide)]
    rw [hc]
    clear hc
    go_enter Try.func33, Try.ntmps33
    go_wp2_with (go_at_call 26; refine (rmay_any _ _ _).mono ?_; rintro e w' ⟨rfl, hb⟩; obtain ⟨hcc, hf⟩ := bcell hb)
    go_ret
    exact ⟨rfl, bl_tr (bl_al (bl0 _) _) hb⟩
  · obtain ⟨b1, b2⟩ := area_bd hm
    by_cases hn : (n : Int) = W * H
    · have hc : chkF W H n = 0 := by unfold chkF; rw [if_pos hm, if_pos hn]
      have hn2 : ((n : Int) != W * H) = false := by rw [bne_eq_false_iff_eq]; exact hn
      rw [hc]
      clear hc hn
      go_enter Try.func33, Try.ntmps33
      go_wp2_with (go_at_call 26; refine (rmay_any _ _ _).mono ?_; rintro e w' ⟨rfl, hb⟩; obtain ⟨hcc, hf⟩ := bcell hb)
      go_ret
      exact ⟨rfl, bl_tr (bl_al (bl0 _) _) hb⟩
    · have hc : chkF W H n = 12 := by unfold chkF; rw [if_pos hm, if_neg hn]
      have hn2 : ((n : Int) != W * H) = true := by rw [bne_iff_ne]; exact hn
      rw [hc]
      clear hc hn
      go_enter Try.func33, Try.ntmps33
      go_wp2_with (go_at_call 26; refine (rmay_any _ _ _).mono ?_; rintro e w' ⟨rfl, hb⟩; obtain ⟨hcc, hf⟩ := bcell hb)
      go_ret
      exact ⟨rfl, bl_tr (bl_al (bl0 _) _) hb⟩
end Go.Proofs.Ytccokdfkmppohaa

/- Whether two fields are the same; whether one is small. -/
namespace Go.Proofs.Ytccokdfkmppohaa
open Go.RowKit


/-- Whether a field is small. -/
def smallB (W H n : Int) : Bool := decide (n ≤ 600) && (!mayB W H || (decide (W ≤ 24) && decide (H ≤ 24)))
set_option maxHeartbeats 2000000 in
theorem small_any (W H : Int) (a : Option Addr) (n c : Nat) (w : World) :
    Calls Try.prog 24 #[.agg #[.int .i64 W, .int .i64 H, .slice a n c]] w fun e w' => e = .returned (.bool (smallB W H n)) ∧ Below w.heap.size w w' := by
  by_cases hn : (n : Int) ≤ 600
  · cases hm : mayB W H
    · have h4 : smallB W H n = true := by simp [smallB, hn, hm]
      rw [h4]
      clear h4
      go_enter Try.func24, Try.ntmps24
      go_wp2_with (go_at_call 26; refine (rmay_any _ _ _).mono ?_; rintro e w' ⟨rfl, hb⟩; obtain ⟨hcc, hf⟩ := bcell hb)
      go_ret
      exact ⟨rfl, bl_tr (bl_al (bl0 _) _) hb⟩
    · have h4 : smallB W H n = (decide (W ≤ 24) && decide (H ≤ 24)) := by simp [smallB, hn, hm]
      rw [h4]
      clear h4
      by_cases h5 : W ≤ 24
      · go_enter Try.func24, Try.ntmps24
        go_wp2_with (go_at_call 26; refine (rmay_any _ _ _).mono ?_; rintro e w' ⟨rfl, hb⟩; obtain ⟨hcc, hf⟩ := bcell hb)
        go_ret
        exact ⟨ret_bool (by simp [h5]), bl_tr (bl_al (bl0 _) _) hb⟩
      · go_enter Try.func24, Try.ntmps24
        go_wp2_with (go_at_call 26; refine (rmay_any _ _ _).mono ?_; rintro e w' ⟨rfl, hb⟩; obtain ⟨hcc, hf⟩ := bcell hb)
        go_ret
        exact ⟨ret_bool (by simp; omega), bl_tr (bl_al (bl0 _) _) hb⟩
  · have h4 : smallB W H n = false := by simp [smallB, hn]
    rw [h4]
    clear h4
    go_enter Try.func24, Try.ntmps24
    go_wp2
    go_ret
    exact ⟨rfl, bl_al (bl0 _) _⟩
end Go.Proofs.Ytccokdfkmppohaa

/- A loop over an iterator that keeps state of its own in some blocks of its own: the law for whoever writes it, also within a round of another loop. -/
namespace Go.Proofs.Ytccokdfkmppohaa
open Go.RowKit Go.Shelf
attribute [local go_sem] Oper.semAt_some

theorem yieldAt_wide {m : Nat} (m' : Nat) {P : Program} {l : Nat} {args : Array Value} {W : World} {R : Ending → World → Prop} (x : YieldAt Fence.wide m P l args W R) : YieldAt Fence.wide m' P l args W R := by
  obtain ⟨fn, tmps, assign, body, hy, hR⟩ := x
  exact ⟨fn, tmps, assign, body, hy, ⟨hR.1, fun c cs _ => hR.2 c cs (room_wide _)⟩⟩
theorem roundIn_any {F : Fence} (l' : Nat) {m : Nat} {P : Program} {l : Nat} {f : FuncId} {tmps : Array Value} {assign body : Code} {w : World} {R : Ending → World → Prop}
    (x : RoundIn F m P l f tmps assign body w R) : RoundIn (F.inRound l') m P l f tmps assign body w R := x
theorem grown_of_below {W W' : World} (h : Below W.heap.size W W') : W.grownBy W' none := ⟨h.os, h.tape, h.output, h.size, fun k hk _ => h.block k hk⟩
theorem callsIn_deep {P : Program} {f : FuncId} {args : Array Value} {w : World} {R : Ending → World → Prop} {n : Nat} (m : Nat) (h : CallsIn Fence.wide n P f args w R) : CallsIn Fence.wide m P f args w R :=
  callsIn_wide.2 (callsIn_wide.1 h)

/-- The blocks from p on, c of them, lie as they lay. -/
def KP (p c : Nat) (A B : World) : Prop := A.heap.size ≤ B.heap.size ∧ ∀ k, p ≤ k → k < p + c → B.heap[k]? = A.heap[k]?
theorem KP.refl (p c : Nat) (A : World) : KP p c A A := ⟨Nat.le_refl _, fun _ _ _ => rfl⟩
theorem KP.trans {p c : Nat} {A B C : World} (x : KP p c A B) (y : KP p c B C) : KP p c A C := ⟨Nat.le_trans x.1 y.1, fun k h1 h2 => (y.2 k h1 h2).trans (x.2 k h1 h2)⟩
theorem KP.of_below {p c : Nat} {A B : World} (h : Below A.heap.size A B) (hp : p + c ≤ A.heap.size) : KP p c A B := ⟨h.size, fun k _ h2 => h.block k (by omega)⟩
theorem KP.of_below' {p c n : Nat} {A B : World} (h : Below n A B) (hp : p + c ≤ n) (hs : A.heap.size ≤ B.heap.size) : KP p c A B := ⟨hs, fun k _ h2 => h.block k (by omega)⟩
theorem KP.put {p c l : Nat} {A : World} (o : Obj) (hl : p + c ≤ l) : KP p c A (A.putObj l o) := ⟨by simp, fun k _ h2 => World.putObj_heap_other (by omega)⟩
theorem KP.st {p c l o : Nat} {A : World} (u : Value) (hl : p + c ≤ l) : KP p c A (A.setCell ⟨l, o, none⟩ u) := ⟨by simp, fun k _ h2 => Below.heap_setCell _ _ _ k (show k ≠ l by omega)⟩
theorem KP.cell {p c k o : Nat} {A B : World} {v : Value} (x : KP p c A B) (h1 : p ≤ k) (h2 : k < p + c) (q : A.cell? ⟨k, o, none⟩ = some v) : B.cell? ⟨k, o, none⟩ = some v :=
  (World.cell?_of_block (a := ⟨k, o, none⟩) (x.2 k h1 h2)).trans q
theorem KP.boxed {p c k : Nat} {t : TypeId} {A B : World} {v : Value} (x : KP p c A B) (h1 : p ≤ k) (h2 : k < p + c) (q : Boxed A k t v) : Boxed B k t v := (x.2 k h1 h2).trans q

/-- What is cells in a block is cells of that type afterwards. -/
def SameKind (A B : World) (r : Nat) : Prop := ∀ cs t, A.heap[r]? = some (.cells cs t (0, 0)) → ∃ cs', B.heap[r]? = some (.cells cs' t (0, 0))
theorem sameKind_set (A : World) (r o : Nat) (u : Value) : SameKind A (A.setCell ⟨r, o, none⟩ u) r := fun cs t h => ⟨_, heap_setCell_same A r o cs t u h⟩
/-- It abides turns of those blocks. -/
def AbP {β : Type} (p c : Nat) (J : β → World → Prop) : Prop := ∀ s A B row, J s A → A.grownBy B row → (∀ r, row = some r → p ≤ r ∧ r < p + c ∧ SameKind A B r) → J s B

/-- An iterator by its contract: it hands in xs; what it turns, are the blocks from p on, c of them. -/
def IterP {α : Type} (p c gf : Nat) (lb : Array Value) (encs : α → Array Value) (xs : List α) (w : World) : Prop :=
  ∀ (l : Nat) (J Jx : List α → World → Prop) (W : World), Below w.heap.size w W → AbP p c J → AbP p c Jx →
    (∀ pre x W1, J pre W1 → pre ++ [x] <+: xs → YieldAt Fence.wide 0 Try.prog l (encs x) W1 fun e W' =>
      (e = .returned (.bool true) ∧ J (pre ++ [x]) W' ∧ KP p c W1 W') ∨ (e = .returned (.bool false) ∧ Jx (pre ++ [x]) W')) →
    J [] W →
    CallsIn Fence.wide 10 Try.prog gf (#[.func (.yield l) #[] #[]] ++ lb) W fun e W' => (∃ v, e = .returned v) ∧ (J xs W' ∨ ∃ q, q <+: xs ∧ Jx q W')

/-- How the body of a round may be left: at its end, by a return, or out of a loop. -/
def bodyP {α : Type} (p c n₁ : Nat) (I : List α → World → Prop) (Ix : Code → List α → World → Prop) (xs : List α) (W : World) : Exit → Act → World → Prop
  | .normal, _, W' => KeepsFrom n₁ W W' ∧ KP p c W W' ∧ I xs W'
  | .ret, _, W' => KeepsFrom n₁ W W' ∧ Ix .ret xs W'
  | .exit id, _, W' => KeepsFrom n₁ W W' ∧ Ix (.exit id) xs W'
  | _, _, _ => False

/-- What is no cells, but one block, lies as it lay. -/
def KeepsBut (n L : Nat) (A B : World) : Prop := ∀ (k : Nat) (o : Obj), n ≤ k → k ≠ L → A.heap[k]? = some o → o.isCells = false → B.heap[k]? = some o
theorem KeepsBut.trans {n L : Nat} {A B C : World} (x : KeepsBut n L A B) (y : KeepsBut n L B C) : KeepsBut n L A C := fun k o h1 h2 h3 h4 => y k o h1 h2 (x k o h1 h2 h3 h4) h4
theorem KeepsFrom.but {n L : Nat} {A B : World} (x : KeepsFrom n A B) : KeepsBut n L A B := fun k o h1 _ h3 h4 => x.same k o h1 h3 h4
theorem KeepsBut.put {n L : Nat} {A : World} (o : Obj) : KeepsBut n L A (A.putObj L o) := fun _ _ _ h2 h3 _ => (World.putObj_heap_other h2).trans h3

set_option maxHeartbeats 1000000 in
/-- One round. -/
theorem round_p {α : Type} {encs : α → Array Value} {p c n L : Nat} {fn : FuncId} {tm : Array Value} {ps : Array Tmp} {assign body : Code} {df : Nat}
    (hfn : Fence.wide.fn fn) (hnL : n ≤ L) (hpn : p + c ≤ n)
    (I : List α → World → Prop) (Ix : Code → List α → World → Prop) (hI : OwnFrom n I) (hIx : ∀ c, OwnFrom n (Ix c)) (Ax : α → Act → World → Prop) (hAx : ∀ x a', OwnFrom n (fun (_ : Unit) W => Ax x a' W))
    (pre : List α) (x : α) (W : World) (hps : (encs x).size = ps.size)
    (hl : W.heap[L]? = some (.loop { state := .ready, pending := none, fn := fn, tmps := tm, params := ps, assign := assign, body := body, defers := df }))
    (hassign : ∀ (K : Act → World → Prop), (∀ a' W', KeepsFrom n W W' → KP p c W W' → I pre W' → Ax x a' W' → K a' W') →
      assign.wpIn (Fence.wide.inRound L) 7 Try.prog (Exit.then K (fun _ _ _ => False)) { tmps := (ps.zip (encs x)).foldl (fun t (p, v) => t.setIfInBounds p v) tm, defers := [] } W)
    (hbody : ∀ (a' : Act) (W : World), (∃ r, W.heap[L]? = some (.loop r)) → I pre W → Ax x a' W → body.wpIn (Fence.wide.inRound L) 7 Try.prog (bodyP p c n I Ix (pre ++ [x]) W) a' W) :
    YieldAt Fence.wide 0 Try.prog L (encs x) W fun e W' => KeepsBut n L W W' ∧
      ((e = .returned (.bool true) ∧ I (pre ++ [x]) W' ∧ W'.heap[L]? = some (.loop { state := .ready, pending := none, fn := fn, tmps := tm, params := ps, assign := assign, body := body, defers := df }) ∧ KP p c W W') ∨
       (e = .returned (.bool false) ∧ ∃ cc, Ix cc (pre ++ [x]) W' ∧ W'.heap[L]? = some (.loop { state := .done, pending := some cc, fn := fn, tmps := tm, params := ps, assign := assign, body := body, defers := df }))) := by
  have hy := run_yield (P := Try.prog) (args := encs x) hl hps
  refine yieldAt_wide (m := 7) 0 ⟨fn, _, assign, body, hy, roundIn_of_wpIn hfn (hassign _ ?_)⟩
  intro a' Wa hka hkp hia hax
  have hl2 := hka.same L _ hnL hl rfl
  refine ⟨_, run_beginRound hl2 rfl, ?_⟩
  obtain ⟨W3, hW3⟩ : ∃ W3, Wa.putObj L (.loop { state := .busy, pending := none, fn := fn, tmps := tm, params := ps, assign := assign, body := body, defers := df }) = W3 := ⟨_, rfl⟩
  have hl3 : W3.heap[L]? = some (.loop { state := .busy, pending := none, fn := fn, tmps := tm, params := ps, assign := assign, body := body, defers := df }) := by rw [← hW3]; exact World.putObj_heap_same (Array.getElem?_eq_some_iff.1 hl2).1
  have hg3 : Wa.grownBy W3 (some L) := by rw [← hW3]; exact grownBy_putObj' _ _ _
  have hr3 : ∀ r, some L = some r → n ≤ r ∧ ∃ o : Obj, Wa.heap[r]? = some o ∧ o.isCells = false := fun r e => by cases e; exact ⟨hnL, _, hl2, rfl⟩
  have hb3 : KeepsBut n L W W3 := (KeepsFrom.but hka).trans (by rw [← hW3]; exact KeepsBut.put _)
  have hp3 : KP p c W W3 := hkp.trans (by rw [← hW3]; exact KP.put _ (by omega))
  rw [hW3]
  refine wpIn_mono (hbody a' W3 ⟨_, hl3⟩ (hI _ Wa W3 _ hia hg3 hr3) (hAx x a' () Wa W3 _ hax hg3 hr3)) ?_
  have stop : ∀ (cc : Code) (W4 : World), KeepsFrom n W3 W4 → Ix cc (pre ++ [x]) W4 → ∀ o, o = Obj.loop { state := .done, pending := some cc, fn := fn, tmps := tm, params := ps, assign := assign, body := body, defers := df } → KeepsBut n L W (W4.putObj L o) ∧ (W4.putObj L o).heap[L]? = some o ∧ Ix cc (pre ++ [x]) (W4.putObj L o) := by
    intro cc W4 hb4 hi4 o ho
    have hl4 := hb4.same L _ hnL hl3 rfl
    exact ⟨(hb3.trans (KeepsFrom.but hb4)).trans (KeepsBut.put _), World.putObj_heap_same (Array.getElem?_eq_some_iff.1 hl4).1, hIx cc _ W4 _ _ hi4 (grownBy_putObj' W4 _ _) (fun r e => by cases e; exact ⟨hnL, _, hl4, rfl⟩)⟩
  rintro e a3 W4 hp'
  cases e with
  | normal =>
    obtain ⟨hb4, hk4, hi4⟩ := hp'
    have hl4 := hb4.same L _ hnL hl3 rfl
    have he := run_endRound (P := Try.prog) none hl4
    refine ⟨_, _, he, (hb3.trans (KeepsFrom.but hb4)).trans (KeepsBut.put _), .inl ⟨rfl, hI _ W4 _ _ hi4 (grownBy_putObj' W4 _ _) (fun r e => by cases e; exact ⟨hnL, _, hl4, rfl⟩), ?_, (hp3.trans hk4).trans (KP.put _ (by omega))⟩⟩
    rw [World.putObj_heap_same (Array.getElem?_eq_some_iff.1 hl4).1]; rfl
  | ret =>
    obtain ⟨hb4, hi4⟩ := hp'
    have he := run_endRound (P := Try.prog) (some .ret) (hb4.same L _ hnL hl3 rfl)
    obtain ⟨q1, q2, q3⟩ := stop .ret W4 hb4 hi4 _ rfl
    exact ⟨_, _, he, q1, .inr ⟨rfl, _, q3, q2⟩⟩
  | exit id =>
    obtain ⟨hb4, hi4⟩ := hp'
    have he := run_endRound (P := Try.prog) (some (.exit id)) (hb4.same L _ hnL hl3 rfl)
    obtain ⟨q1, q2, q3⟩ := stop (.exit id) W4 hb4 hi4 _ rfl
    exact ⟨_, _, he, q1, .inr ⟨rfl, _, q3, q2⟩⟩
  | goto t => exact hp'.elim
  | panic ch => exact hp'.elim
  | outgrown => exact hp'.elim

set_option maxHeartbeats 1000000 in
theorem range_p {α : Type} {encs : α → Array Value} {ps : Array Tmp} {assign body : Code} {g : Operand} {Q : Exit → Act → World → Prop} {a : Act} {w : World} (p c gf : Nat) (lb : Array Value) (xs : List α) (hit : IterP p c gf lb encs xs w)
    (hg : a.eval g = .func (.func gf) #[] lb) (hps : ∀ x, (encs x).size = ps.size) (hp : p + c ≤ w.heap.size)
    (hen : ∀ args w', (callFunc gf args).run Try.prog w' = .ok (.enter gf args) w')
    (I : List α → World → Prop) (Ix : Code → List α → World → Prop) (hI : OwnFrom w.heap.size I) (hIx : ∀ c, OwnFrom w.heap.size (Ix c)) (hIp : AbP p c I) (hIxp : ∀ cc, AbP p c (Ix cc)) (h0 : I [] w)
    (Ax : α → Act → World → Prop) (hAx : ∀ x a', OwnFrom w.heap.size (fun (_ : Unit) W => Ax x a' W))
    (hassign : ∀ (l : Nat) (pre : List α) (x : α) (W : World) (K : Act → World → Prop), I pre W → (∀ a' W', KeepsFrom w.heap.size W W' → KP p c W W' → I pre W' → Ax x a' W' → K a' W') →
      assign.wpIn (Fence.wide.inRound l) 7 Try.prog (Exit.then K (fun _ _ _ => False)) { tmps := (ps.zip (encs x)).foldl (fun t (p, v) => t.setIfInBounds p v) a.tmps, defers := [] } W)
    (hbody : ∀ (l : Nat) (pre : List α) (x : α) (a' : Act) (W : World), w.heap.size ≤ l → (∃ r, W.heap[l]? = some (.loop r)) → I pre W → Ax x a' W → pre ++ [x] <+: xs → body.wpIn (Fence.wide.inRound l) 7 Try.prog (bodyP p c w.heap.size I Ix (pre ++ [x]) W) a' W)
    (hdone : ∀ (D : Nat) (W : World), w.heap.size ≤ D → I xs W → W.heap[D]? = some (.deferred (some [])) → Q .normal { a with defers := { target := .collected D, args := #[] } :: a.defers } W)
    (hstop : ∀ (D : Nat) (cc : Code) (q : List α) (W : World), w.heap.size ≤ D → q <+: xs → Ix cc q W → W.heap[D]? = some (.deferred (some [])) → cc.wpIn Fence.wide 11 Try.prog Q { a with defers := { target := .collected D, args := #[] } :: a.defers } W) :
    (Code.rangeFunc g ps assign body).wpIn Fence.wide 11 Try.prog Q a w := by
  refine wpIn_rangeFunc fun fn hfn => ?_
  obtain ⟨R, hR⟩ : ∃ R : LoopState → Option Code → Loop, R = fun st pe => { state := st, pending := pe, fn, tmps := a.tmps, params := ps, assign, body, defers := w.heap.size } := ⟨_, rfl⟩
  obtain ⟨W1, hW1⟩ : ∃ W1, (w.alloc (.deferred (some []))).alloc (.loop (R .ready none)) = W1 := ⟨_, rfl⟩
  have hk1 : Below w.heap.size w W1 := by rw [← hW1]; exact bl_al (bl_al (bl0 _) _) _
  have hL1 : W1.heap[w.heap.size + 1]? = some (.loop (R .ready none)) := by
    have h := World.alloc_heap_new (w.alloc (.deferred (some []))) (.loop (R .ready none))
    rw [World.size_alloc] at h
    rw [← hW1]; exact h
  have hD1 : W1.heap[w.heap.size]? = some (.deferred (some [])) := by
    rw [← hW1]; exact (Below.heap_alloc _ _ _ (by simp)).trans (World.alloc_heap_new w _)
  have hI1 : I [] W1 := hI [] w W1 none h0 (grown_of_below hk1) (fun r e => by cases e)
  refine ⟨w.heap.size + 1, [{ target := .collected w.heap.size, args := #[] }], W1, { target := .fn (.func gf) lb, args := #[.func (.yield (w.heap.size + 1)) #[] #[]] }, W1, gf,
    #[.func (.yield (w.heap.size + 1)) #[] #[]] ++ lb, W1, ?_, ?_, ?_, ?_, (fun h => by cases h), ?_⟩
  · rw [← hW1, hR]; exact run_enterLoop_outer _ _ _ _ _
  · simp only [resolve, hg]
    simp [go_sem]
  · intro f' _; exact trivial
  · simpa [invoke, go_sem] using hen _ _
  refine (hit (w.heap.size + 1)
    (fun pre W => I pre W ∧ W.heap[w.heap.size + 1]? = some (.loop (R .ready none)) ∧ W.heap[w.heap.size]? = some (.deferred (some [])))
    (fun pre W => ∃ c, Ix c pre W ∧ W.heap[w.heap.size + 1]? = some (.loop (R .done (some c))) ∧ W.heap[w.heap.size]? = some (.deferred (some [])))
    W1 hk1 ?oJ ?oJx ?round ⟨hI1, hL1, hD1⟩).mono ?behind
  case oJ =>
    intro s A B row hs hg' hr
    refine ⟨hIp s A B row hs.1 hg' hr, (hg'.block _ (Array.getElem?_eq_some_iff.1 hs.2.1).1 (fun e => by have := (hr _ e.symm).2.1; omega)).trans hs.2.1, (hg'.block _ (Array.getElem?_eq_some_iff.1 hs.2.2).1 (fun e => by have := (hr _ e.symm).2.1; omega)).trans hs.2.2⟩
  case oJx =>
    rintro s A B row ⟨cc, hs⟩ hg' hr
    refine ⟨cc, hIxp cc s A B row hs.1 hg' hr, (hg'.block _ (Array.getElem?_eq_some_iff.1 hs.2.1).1 (fun e => by have := (hr _ e.symm).2.1; omega)).trans hs.2.1, (hg'.block _ (Array.getElem?_eq_some_iff.1 hs.2.2).1 (fun e => by have := (hr _ e.symm).2.1; omega)).trans hs.2.2⟩
  case behind =>
    rintro e W2 ⟨⟨v, rfl⟩, (⟨hi, hl, hk⟩ | ⟨q, hq, cc, hi, hl, hk⟩)⟩
    · have he := run_endLoop (P := Try.prog) hl (by rw [hR]; simp)
      rw [hR] at he
      exact ⟨none, _, he, hdone _ _ (Nat.le_refl _) (hI _ W2 _ _ hi (grownBy_putObj' W2 _ _) (fun r e => by cases e; exact ⟨by omega, _, hl, rfl⟩)) ((World.putObj_heap_other (by omega)).trans hk)⟩
    · have he := run_endLoop (P := Try.prog) hl (by rw [hR]; simp)
      rw [hR] at he
      exact ⟨some cc, _, he, hstop _ cc q _ (Nat.le_refl _) hq (hIx cc _ W2 _ _ hi (grownBy_putObj' W2 _ _) (fun r e => by cases e; exact ⟨by omega, _, hl, rfl⟩)) ((World.putObj_heap_other (by omega)).trans hk)⟩
  case round =>
    rintro pre x W ⟨hi, hl, hk⟩ hlen
    rw [hR] at hl
    obtain ⟨fn', t', as', bo', hy, hRd⟩ := round_p (encs := encs) (p := p) (c := c) (n := w.heap.size) (L := w.heap.size + 1) hfn (by omega) hp I Ix hI hIx Ax hAx pre x W (hps x) hl (fun K hK => hassign _ pre x W K hi hK) (fun a' W' hl' hi' hax => hbody _ pre x a' W' (by omega) hl' hi' hax hlen)
    refine ⟨fn', t', as', bo', hy, hRd.mono ?_⟩
    rintro e W' ⟨hb, (⟨he, hi', hl', hkp⟩ | ⟨he, cc, hi', hl'⟩)⟩
    · exact .inl ⟨he, ⟨hi', by rw [hR]; exact hl', hb _ _ (Nat.le_refl _) (by omega) hk rfl⟩, hkp⟩
    · exact .inr ⟨he, cc, hi', by rw [hR]; exact hl', hb _ _ (Nat.le_refl _) (by omega) hk rfl⟩

set_option maxHeartbeats 1000000 in
/-- The same, within a round of the loop l₀. -/
theorem range_pn {α : Type} {encs : α → Array Value} {ps : Array Tmp} {assign body : Code} {g : Operand} {Q : Exit → Act → World → Prop} {a : Act} {w : World} {l₀ : Nat} {r₀ : Loop} (hl₀ : w.heap[l₀]? = some (.loop r₀)) (p c gf : Nat) (lb : Array Value) (xs : List α) (hit : IterP p c gf lb encs xs w)
    (hg : a.eval g = .func (.func gf) #[] lb) (hps : ∀ x, (encs x).size = ps.size) (hp : p + c ≤ w.heap.size)
    (hen : ∀ args w', (callFunc gf args).run Try.prog w' = .ok (.enter gf args) w')
    (I : List α → World → Prop) (Ix : Code → List α → World → Prop) (hI : OwnFrom w.heap.size I) (hIx : ∀ c, OwnFrom w.heap.size (Ix c)) (hIp : AbP p c I) (hIxp : ∀ cc, AbP p c (Ix cc)) (h0 : I [] w)
    (Ax : α → Act → World → Prop) (hAx : ∀ x a', OwnFrom w.heap.size (fun (_ : Unit) W => Ax x a' W))
    (hassign : ∀ (l : Nat) (pre : List α) (x : α) (W : World) (K : Act → World → Prop), I pre W → (∀ a' W', KeepsFrom w.heap.size W W' → KP p c W W' → I pre W' → Ax x a' W' → K a' W') →
      assign.wpIn (Fence.wide.inRound l) 7 Try.prog (Exit.then K (fun _ _ _ => False)) { tmps := (ps.zip (encs x)).foldl (fun t (p, v) => t.setIfInBounds p v) a.tmps, defers := [] } W)
    (hbody : ∀ (l : Nat) (pre : List α) (x : α) (a' : Act) (W : World), w.heap.size ≤ l → (∃ r, W.heap[l]? = some (.loop r)) → I pre W → Ax x a' W → pre ++ [x] <+: xs → body.wpIn (Fence.wide.inRound l) 7 Try.prog (bodyP p c w.heap.size I Ix (pre ++ [x]) W) a' W)
    (hdone : ∀ (W : World), I xs W → Q .normal a W)
    (hstop : ∀ (cc : Code) (q : List α) (W : World), q <+: xs → Ix cc q W → cc.wpIn (Fence.wide.inRound l₀) 7 Try.prog Q a W) :
    (Code.rangeFunc g ps assign body).wpIn (Fence.wide.inRound l₀) 7 Try.prog Q a w := by
  refine wpIn_rangeFunc fun fn hfn => ?_
  obtain ⟨R, hR⟩ : ∃ R : LoopState → Option Code → Loop, R = fun st pe => { state := st, pending := pe, fn, tmps := a.tmps, params := ps, assign, body, defers := r₀.defers } := ⟨_, rfl⟩
  obtain ⟨W1, hW1⟩ : ∃ W1, w.alloc (.loop (R .ready none)) = W1 := ⟨_, rfl⟩
  have hk1 : Below w.heap.size w W1 := by rw [← hW1]; exact bl_al (bl0 _) _
  have hL1 : W1.heap[w.heap.size]? = some (.loop (R .ready none)) := by rw [← hW1]; exact World.alloc_heap_new w _
  have hI1 : I [] W1 := hI [] w W1 none h0 (grown_of_below hk1) (fun r e => by cases e)
  refine ⟨w.heap.size, [], W1, { target := .fn (.func gf) lb, args := #[.func (.yield w.heap.size) #[] #[]] }, W1, gf,
    #[.func (.yield w.heap.size) #[] #[]] ++ lb, W1, ?_, ?_, ?_, ?_, (fun h => by cases h), ?_⟩
  · rw [← hW1, hR]; exact run_enterLoop_inner hl₀ _ _ _ _ _
  · simp only [resolve, hg]
    simp [go_sem]
  · intro f' _; exact trivial
  · simpa [invoke, go_sem] using hen _ _
  refine CallsIn.inRound l₀ (callsIn_deep _ ((hit w.heap.size
    (fun pre W => I pre W ∧ W.heap[w.heap.size]? = some (.loop (R .ready none)))
    (fun pre W => ∃ c, Ix c pre W ∧ W.heap[w.heap.size]? = some (.loop (R .done (some c))))
    W1 hk1 ?oJ ?oJx ?round ⟨hI1, hL1⟩).mono ?behind))
  case oJ =>
    intro s A B row hs hg' hr
    exact ⟨hIp s A B row hs.1 hg' hr, (hg'.block _ (Array.getElem?_eq_some_iff.1 hs.2).1 (fun e => by have := (hr _ e.symm).2.1; omega)).trans hs.2⟩
  case oJx =>
    rintro s A B row ⟨cc, hs⟩ hg' hr
    exact ⟨cc, hIxp cc s A B row hs.1 hg' hr, (hg'.block _ (Array.getElem?_eq_some_iff.1 hs.2).1 (fun e => by have := (hr _ e.symm).2.1; omega)).trans hs.2⟩
  case behind =>
    rintro e W2 ⟨⟨v, rfl⟩, (⟨hi, hl⟩ | ⟨q, hq, cc, hi, hl⟩)⟩
    · have he := run_endLoop (P := Try.prog) hl (by rw [hR]; simp)
      rw [hR] at he
      exact ⟨none, _, he, hdone _ (hI _ W2 _ _ hi (grownBy_putObj' W2 _ _) (fun r e => by cases e; exact ⟨by omega, _, hl, rfl⟩))⟩
    · have he := run_endLoop (P := Try.prog) hl (by rw [hR]; simp)
      rw [hR] at he
      exact ⟨some cc, _, he, hstop cc q _ hq (hIx cc _ W2 _ _ hi (grownBy_putObj' W2 _ _) (fun r e => by cases e; exact ⟨by omega, _, hl, rfl⟩))⟩
  case round =>
    rintro pre x W ⟨hi, hl⟩ hlen
    rw [hR] at hl
    obtain ⟨fn', t', as', bo', hy, hRd⟩ := round_p (encs := encs) (p := p) (c := c) (n := w.heap.size) (L := w.heap.size) hfn (by omega) hp I Ix hI hIx Ax hAx pre x W (hps x) hl (fun K hK => hassign _ pre x W K hi hK) (fun a' W' hl' hi' hax => hbody _ pre x a' W' (by omega) hl' hi' hax hlen)
    refine ⟨fn', t', as', bo', hy, hRd.mono ?_⟩
    rintro e W' ⟨hb, (⟨he, hi', hl', hkp⟩ | ⟨he, cc, hi', hl'⟩)⟩
    · exact .inl ⟨he, ⟨hi', by rw [hR]; exact hl'⟩, hkp⟩
    · exact .inr ⟨he, cc, hi', by rw [hR]; exact hl'⟩
end Go.Proofs.Ytccokdfkmppohaa

/- The law for a loop over an iterator whose blocks lie as they lay also behind the last round, however that one ended. -/
namespace Go.Proofs.Ytccokdfkmppohaa
open Go.RowKit Go.Shelf
attribute [local go_sem] Oper.semAt_some

/-- An iterator by its contract: it hands in xs; what it turns, are the blocks from p on, c of them. -/
def IterQ {α : Type} (p c gf : Nat) (lb : Array Value) (encs : α → Array Value) (xs : List α) (w : World) : Prop :=
  ∀ (l : Nat) (J Jx : List α → World → Prop) (W : World), Below w.heap.size w W → AbP p c J → AbP p c Jx →
    (∀ pre x W1, J pre W1 → pre ++ [x] <+: xs → YieldAt Fence.wide 0 Try.prog l (encs x) W1 fun e W' =>
      (e = .returned (.bool true) ∧ J (pre ++ [x]) W' ∧ KP p c W1 W') ∨ (e = .returned (.bool false) ∧ Jx (pre ++ [x]) W' ∧ KP p c W1 W')) →
    J [] W →
    CallsIn Fence.wide 10 Try.prog gf (#[.func (.yield l) #[] #[]] ++ lb) W fun e W' => (∃ v, e = .returned v) ∧ (J xs W' ∨ ∃ q, q <+: xs ∧ Jx q W')

/-- How the body of a round may be left: at its end, by a return, or out of a loop. -/
def bodyQ {α : Type} (p c n₁ : Nat) (I : List α → World → Prop) (Ix : Code → List α → World → Prop) (xs : List α) (W : World) : Exit → Act → World → Prop
  | .normal, _, W' => KeepsFrom n₁ W W' ∧ KP p c W W' ∧ I xs W'
  | .ret, _, W' => KeepsFrom n₁ W W' ∧ KP p c W W' ∧ Ix .ret xs W'
  | .exit id, _, W' => KeepsFrom n₁ W W' ∧ KP p c W W' ∧ Ix (.exit id) xs W'
  | _, _, _ => False

set_option maxHeartbeats 1000000 in
/-- One round. -/
theorem round_q {α : Type} {encs : α → Array Value} {p c n L : Nat} {fn : FuncId} {tm : Array Value} {ps : Array Tmp} {assign body : Code} {df : Nat}
    (hfn : Fence.wide.fn fn) (hnL : n ≤ L) (hpn : p + c ≤ n)
    (I : List α → World → Prop) (Ix : Code → List α → World → Prop) (hI : OwnFrom n I) (hIx : ∀ c, OwnFrom n (Ix c)) (Ax : α → Act → World → Prop) (hAx : ∀ x a', OwnFrom n (fun (_ : Unit) W => Ax x a' W))
    (pre : List α) (x : α) (W : World) (hps : (encs x).size = ps.size)
    (hl : W.heap[L]? = some (.loop { state := .ready, pending := none, fn := fn, tmps := tm, params := ps, assign := assign, body := body, defers := df }))
    (hassign : ∀ (K : Act → World → Prop), (∀ a' W', KeepsFrom n W W' → KP p c W W' → I pre W' → Ax x a' W' → K a' W') →
      assign.wpIn (Fence.wide.inRound L) 7 Try.prog (Exit.then K (fun _ _ _ => False)) { tmps := (ps.zip (encs x)).foldl (fun t (p, v) => t.setIfInBounds p v) tm, defers := [] } W)
    (hbody : ∀ (a' : Act) (W : World), (∃ r, W.heap[L]? = some (.loop r)) → I pre W → Ax x a' W → body.wpIn (Fence.wide.inRound L) 7 Try.prog (bodyQ p c n I Ix (pre ++ [x]) W) a' W) :
    YieldAt Fence.wide 0 Try.prog L (encs x) W fun e W' => KeepsBut n L W W' ∧
      ((e = .returned (.bool true) ∧ I (pre ++ [x]) W' ∧ W'.heap[L]? = some (.loop { state := .ready, pending := none, fn := fn, tmps := tm, params := ps, assign := assign, body := body, defers := df }) ∧ KP p c W W') ∨
       (e = .returned (.bool false) ∧ KP p c W W' ∧ ∃ cc, Ix cc (pre ++ [x]) W' ∧ W'.heap[L]? = some (.loop { state := .done, pending := some cc, fn := fn, tmps := tm, params := ps, assign := assign, body := body, defers := df }))) := by
  have hy := run_yield (P := Try.prog) (args := encs x) hl hps
  refine yieldAt_wide (m := 7) 0 ⟨fn, _, assign, body, hy, roundIn_of_wpIn hfn (hassign _ ?_)⟩
  intro a' Wa hka hkp hia hax
  have hl2 := hka.same L _ hnL hl rfl
  refine ⟨_, run_beginRound hl2 rfl, ?_⟩
  obtain ⟨W3, hW3⟩ : ∃ W3, Wa.putObj L (.loop { state := .busy, pending := none, fn := fn, tmps := tm, params := ps, assign := assign, body := body, defers := df }) = W3 := ⟨_, rfl⟩
  have hl3 : W3.heap[L]? = some (.loop { state := .busy, pending := none, fn := fn, tmps := tm, params := ps, assign := assign, body := body, defers := df }) := by rw [← hW3]; exact World.putObj_heap_same (Array.getElem?_eq_some_iff.1 hl2).1
  have hg3 : Wa.grownBy W3 (some L) := by rw [← hW3]; exact grownBy_putObj' _ _ _
  have hr3 : ∀ r, some L = some r → n ≤ r ∧ ∃ o : Obj, Wa.heap[r]? = some o ∧ o.isCells = false := fun r e => by cases e; exact ⟨hnL, _, hl2, rfl⟩
  have hb3 : KeepsBut n L W W3 := (KeepsFrom.but hka).trans (by rw [← hW3]; exact KeepsBut.put _)
  have hp3 : KP p c W W3 := hkp.trans (by rw [← hW3]; exact KP.put _ (by omega))
  rw [hW3]
  refine wpIn_mono (hbody a' W3 ⟨_, hl3⟩ (hI _ Wa W3 _ hia hg3 hr3) (hAx x a' () Wa W3 _ hax hg3 hr3)) ?_
  have stop : ∀ (cc : Code) (W4 : World), KeepsFrom n W3 W4 → KP p c W3 W4 → Ix cc (pre ++ [x]) W4 → ∀ o, o = Obj.loop { state := .done, pending := some cc, fn := fn, tmps := tm, params := ps, assign := assign, body := body, defers := df } → KeepsBut n L W (W4.putObj L o) ∧ (W4.putObj L o).heap[L]? = some o ∧ Ix cc (pre ++ [x]) (W4.putObj L o) ∧ KP p c W (W4.putObj L o) := by
    intro cc W4 hb4 hk4 hi4 o ho
    have hl4 := hb4.same L _ hnL hl3 rfl
    exact ⟨(hb3.trans (KeepsFrom.but hb4)).trans (KeepsBut.put _), World.putObj_heap_same (Array.getElem?_eq_some_iff.1 hl4).1, hIx cc _ W4 _ _ hi4 (grownBy_putObj' W4 _ _) (fun r e => by cases e; exact ⟨hnL, _, hl4, rfl⟩), (hp3.trans hk4).trans (KP.put _ (by omega))⟩
  rintro e a3 W4 hp'
  cases e with
  | normal =>
    obtain ⟨hb4, hk4, hi4⟩ := hp'
    have hl4 := hb4.same L _ hnL hl3 rfl
    have he := run_endRound (P := Try.prog) none hl4
    refine ⟨_, _, he, (hb3.trans (KeepsFrom.but hb4)).trans (KeepsBut.put _), .inl ⟨rfl, hI _ W4 _ _ hi4 (grownBy_putObj' W4 _ _) (fun r e => by cases e; exact ⟨hnL, _, hl4, rfl⟩), ?_, (hp3.trans hk4).trans (KP.put _ (by omega))⟩⟩
    rw [World.putObj_heap_same (Array.getElem?_eq_some_iff.1 hl4).1]; rfl
  | ret =>
    obtain ⟨hb4, hk4, hi4⟩ := hp'
    have he := run_endRound (P := Try.prog) (some .ret) (hb4.same L _ hnL hl3 rfl)
    obtain ⟨q1, q2, q3, q4⟩ := stop .ret W4 hb4 hk4 hi4 _ rfl
    exact ⟨_, _, he, q1, .inr ⟨rfl, q4, _, q3, q2⟩⟩
  | exit id =>
    obtain ⟨hb4, hk4, hi4⟩ := hp'
    have he := run_endRound (P := Try.prog) (some (.exit id)) (hb4.same L _ hnL hl3 rfl)
    obtain ⟨q1, q2, q3, q4⟩ := stop (.exit id) W4 hb4 hk4 hi4 _ rfl
    exact ⟨_, _, he, q1, .inr ⟨rfl, q4, _, q3, q2⟩⟩
  | goto t => exact hp'.elim
  | panic ch => exact hp'.elim
  | outgrown => exact hp'.elim

set_option maxHeartbeats 1000000 in
theorem range_q {α : Type} {encs : α → Array Value} {ps : Array Tmp} {assign body : Code} {g : Operand} {Q : Exit → Act → World → Prop} {a : Act} {w : World} (p c gf : Nat) (lb : Array Value) (xs : List α) (hit : IterQ p c gf lb encs xs w)
    (hg : a.eval g = .func (.func gf) #[] lb) (hps : ∀ x, (encs x).size = ps.size) (hp : p + c ≤ w.heap.size)
    (hen : ∀ args w', (callFunc gf args).run Try.prog w' = .ok (.enter gf args) w')
    (I : List α → World → Prop) (Ix : Code → List α → World → Prop) (hI : OwnFrom w.heap.size I) (hIx : ∀ c, OwnFrom w.heap.size (Ix c)) (hIp : AbP p c I) (hIxp : ∀ cc, AbP p c (Ix cc)) (h0 : I [] w)
    (Ax : α → Act → World → Prop) (hAx : ∀ x a', OwnFrom w.heap.size (fun (_ : Unit) W => Ax x a' W))
    (hassign : ∀ (l : Nat) (pre : List α) (x : α) (W : World) (K : Act → World → Prop), I pre W → (∀ a' W', KeepsFrom w.heap.size W W' → KP p c W W' → I pre W' → Ax x a' W' → K a' W') →
      assign.wpIn (Fence.wide.inRound l) 7 Try.prog (Exit.then K (fun _ _ _ => False)) { tmps := (ps.zip (encs x)).foldl (fun t (p, v) => t.setIfInBounds p v) a.tmps, defers := [] } W)
    (hbody : ∀ (l : Nat) (pre : List α) (x : α) (a' : Act) (W : World), w.heap.size ≤ l → (∃ r, W.heap[l]? = some (.loop r)) → I pre W → Ax x a' W → pre ++ [x] <+: xs → body.wpIn (Fence.wide.inRound l) 7 Try.prog (bodyQ p c w.heap.size I Ix (pre ++ [x]) W) a' W)
    (hdone : ∀ (D : Nat) (W : World), w.heap.size ≤ D → I xs W → W.heap[D]? = some (.deferred (some [])) → Q .normal { a with defers := { target := .collected D, args := #[] } :: a.defers } W)
    (hstop : ∀ (D : Nat) (cc : Code) (q : List α) (W : World), w.heap.size ≤ D → q <+: xs → Ix cc q W → W.heap[D]? = some (.deferred (some [])) → cc.wpIn Fence.wide 11 Try.prog Q { a with defers := { target := .collected D, args := #[] } :: a.defers } W) :
    (Code.rangeFunc g ps assign body).wpIn Fence.wide 11 Try.prog Q a w := by
  refine wpIn_rangeFunc fun fn hfn => ?_
  obtain ⟨R, hR⟩ : ∃ R : LoopState → Option Code → Loop, R = fun st pe => { state := st, pending := pe, fn, tmps := a.tmps, params := ps, assign, body, defers := w.heap.size } := ⟨_, rfl⟩
  obtain ⟨W1, hW1⟩ : ∃ W1, (w.alloc (.deferred (some []))).alloc (.loop (R .ready none)) = W1 := ⟨_, rfl⟩
  have hk1 : Below w.heap.size w W1 := by rw [← hW1]; exact bl_al (bl_al (bl0 _) _) _
  have hL1 : W1.heap[w.heap.size + 1]? = some (.loop (R .ready none)) := by
    have h := World.alloc_heap_new (w.alloc (.deferred (some []))) (.loop (R .ready none))
    rw [World.size_alloc] at h
    rw [← hW1]; exact h
  have hD1 : W1.heap[w.heap.size]? = some (.deferred (some [])) := by
    rw [← hW1]; exact (Below.heap_alloc _ _ _ (by simp)).trans (World.alloc_heap_new w _)
  have hI1 : I [] W1 := hI [] w W1 none h0 (grown_of_below hk1) (fun r e => by cases e)
  refine ⟨w.heap.size + 1, [{ target := .collected w.heap.size, args := #[] }], W1, { target := .fn (.func gf) lb, args := #[.func (.yield (w.heap.size + 1)) #[] #[]] }, W1, gf,
    #[.func (.yield (w.heap.size + 1)) #[] #[]] ++ lb, W1, ?_, ?_, ?_, ?_, (fun h => by cases h), ?_⟩
  · rw [← hW1, hR]; exact run_enterLoop_outer _ _ _ _ _
  · simp only [resolve, hg]
    simp [go_sem]
  · intro f' _; exact trivial
  · simpa [invoke, go_sem] using hen _ _
  refine (hit (w.heap.size + 1)
    (fun pre W => I pre W ∧ W.heap[w.heap.size + 1]? = some (.loop (R .ready none)) ∧ W.heap[w.heap.size]? = some (.deferred (some [])))
    (fun pre W => ∃ c, Ix c pre W ∧ W.heap[w.heap.size + 1]? = some (.loop (R .done (some c))) ∧ W.heap[w.heap.size]? = some (.deferred (some [])))
    W1 hk1 ?oJ ?oJx ?round ⟨hI1, hL1, hD1⟩).mono ?behind
  case oJ =>
    intro s A B row hs hg' hr
    refine ⟨hIp s A B row hs.1 hg' hr, (hg'.block _ (Array.getElem?_eq_some_iff.1 hs.2.1).1 (fun e => by have := (hr _ e.symm).2.1; omega)).trans hs.2.1, (hg'.block _ (Array.getElem?_eq_some_iff.1 hs.2.2).1 (fun e => by have := (hr _ e.symm).2.1; omega)).trans hs.2.2⟩
  case oJx =>
    rintro s A B row ⟨cc, hs⟩ hg' hr
    refine ⟨cc, hIxp cc s A B row hs.1 hg' hr, (hg'.block _ (Array.getElem?_eq_some_iff.1 hs.2.1).1 (fun e => by have := (hr _ e.symm).2.1; omega)).trans hs.2.1, (hg'.block _ (Array.getElem?_eq_some_iff.1 hs.2.2).1 (fun e => by have := (hr _ e.symm).2.1; omega)).trans hs.2.2⟩
  case behind =>
    rintro e W2 ⟨⟨v, rfl⟩, (⟨hi, hl, hk⟩ | ⟨q, hq, cc, hi, hl, hk⟩)⟩
    · have he := run_endLoop (P := Try.prog) hl (by rw [hR]; simp)
      rw [hR] at he
      exact ⟨none, _, he, hdone _ _ (Nat.le_refl _) (hI _ W2 _ _ hi (grownBy_putObj' W2 _ _) (fun r e => by cases e; exact ⟨by omega, _, hl, rfl⟩)) ((World.putObj_heap_other (by omega)).trans hk)⟩
    · have he := run_endLoop (P := Try.prog) hl (by rw [hR]; simp)
      rw [hR] at he
      exact ⟨some cc, _, he, hstop _ cc q _ (Nat.le_refl _) hq (hIx cc _ W2 _ _ hi (grownBy_putObj' W2 _ _) (fun r e => by cases e; exact ⟨by omega, _, hl, rfl⟩)) ((World.putObj_heap_other (by omega)).trans hk)⟩
  case round =>
    rintro pre x W ⟨hi, hl, hk⟩ hlen
    rw [hR] at hl
    obtain ⟨fn', t', as', bo', hy, hRd⟩ := round_q (encs := encs) (p := p) (c := c) (n := w.heap.size) (L := w.heap.size + 1) hfn (by omega) hp I Ix hI hIx Ax hAx pre x W (hps x) hl (fun K hK => hassign _ pre x W K hi hK) (fun a' W' hl' hi' hax => hbody _ pre x a' W' (by omega) hl' hi' hax hlen)
    refine ⟨fn', t', as', bo', hy, hRd.mono ?_⟩
    rintro e W' ⟨hb, (⟨he, hi', hl', hkp⟩ | ⟨he, hkp, cc, hi', hl'⟩)⟩
    · exact .inl ⟨he, ⟨hi', by rw [hR]; exact hl', hb _ _ (Nat.le_refl _) (by omega) hk rfl⟩, hkp⟩
    · exact .inr ⟨he, ⟨cc, hi', by rw [hR]; exact hl', hb _ _ (Nat.le_refl _) (by omega) hk rfl⟩, hkp⟩

set_option maxHeartbeats 1000000 in
/-- The same, within a round of the loop l₀. -/
theorem range_qn {α : Type} {encs : α → Array Value} {ps : Array Tmp} {assign body : Code} {g : Operand} {Q : Exit → Act → World → Prop} {a : Act} {w : World} {l₀ : Nat} {r₀ : Loop} (hl₀ : w.heap[l₀]? = some (.loop r₀)) (p c gf : Nat) (lb : Array Value) (xs : List α) (hit : IterQ p c gf lb encs xs w)
    (hg : a.eval g = .func (.func gf) #[] lb) (hps : ∀ x, (encs x).size = ps.size) (hp : p + c ≤ w.heap.size)
    (hen : ∀ args w', (callFunc gf args).run Try.prog w' = .ok (.enter gf args) w')
    (I : List α → World → Prop) (Ix : Code → List α → World → Prop) (hI : OwnFrom w.heap.size I) (hIx : ∀ c, OwnFrom w.heap.size (Ix c)) (hIp : AbP p c I) (hIxp : ∀ cc, AbP p c (Ix cc)) (h0 : I [] w)
    (Ax : α → Act → World → Prop) (hAx : ∀ x a', OwnFrom w.heap.size (fun (_ : Unit) W => Ax x a' W))
    (hassign : ∀ (l : Nat) (pre : List α) (x : α) (W : World) (K : Act → World → Prop), I pre W → (∀ a' W', KeepsFrom w.heap.size W W' → KP p c W W' → I pre W' → Ax x a' W' → K a' W') →
      assign.wpIn (Fence.wide.inRound l) 7 Try.prog (Exit.then K (fun _ _ _ => False)) { tmps := (ps.zip (encs x)).foldl (fun t (p, v) => t.setIfInBounds p v) a.tmps, defers := [] } W)
    (hbody : ∀ (l : Nat) (pre : List α) (x : α) (a' : Act) (W : World), w.heap.size ≤ l → (∃ r, W.heap[l]? = some (.loop r)) → I pre W → Ax x a' W → pre ++ [x] <+: xs → body.wpIn (Fence.wide.inRound l) 7 Try.prog (bodyQ p c w.heap.size I Ix (pre ++ [x]) W) a' W)
    (hdone : ∀ (W : World), I xs W → Q .normal a W)
    (hstop : ∀ (cc : Code) (q : List α) (W : World), q <+: xs → Ix cc q W → cc.wpIn (Fence.wide.inRound l₀) 7 Try.prog Q a W) :
    (Code.rangeFunc g ps assign body).wpIn (Fence.wide.inRound l₀) 7 Try.prog Q a w := by
  refine wpIn_rangeFunc fun fn hfn => ?_
  obtain ⟨R, hR⟩ : ∃ R : LoopState → Option Code → Loop, R = fun st pe => { state := st, pending := pe, fn, tmps := a.tmps, params := ps, assign, body, defers := r₀.defers } := ⟨_, rfl⟩
  obtain ⟨W1, hW1⟩ : ∃ W1, w.alloc (.loop (R .ready none)) = W1 := ⟨_, rfl⟩
  have hk1 : Below w.heap.size w W1 := by rw [← hW1]; exact bl_al (bl0 _) _
  have hL1 : W1.heap[w.heap.size]? = some (.loop (R .ready none)) := by rw [← hW1]; exact World.alloc_heap_new w _
  have hI1 : I [] W1 := hI [] w W1 none h0 (grown_of_below hk1) (fun r e => by cases e)
  refine ⟨w.heap.size, [], W1, { target := .fn (.func gf) lb, args := #[.func (.yield w.heap.size) #[] #[]] }, W1, gf,
    #[.func (.yield w.heap.size) #[] #[]] ++ lb, W1, ?_, ?_, ?_, ?_, (fun h => by cases h), ?_⟩
  · rw [← hW1, hR]; exact run_enterLoop_inner hl₀ _ _ _ _ _
  · simp only [resolve, hg]
    simp [go_sem]
  · intro f' _; exact trivial
  · simpa [invoke, go_sem] using hen _ _
  refine CallsIn.inRound l₀ (callsIn_deep _ ((hit w.heap.size
    (fun pre W => I pre W ∧ W.heap[w.heap.size]? = some (.loop (R .ready none)))
    (fun pre W => ∃ c, Ix c pre W ∧ W.heap[w.heap.size]? = some (.loop (R .done (some c))))
    W1 hk1 ?oJ ?oJx ?round ⟨hI1, hL1⟩).mono ?behind))
  case oJ =>
    intro s A B row hs hg' hr
    exact ⟨hIp s A B row hs.1 hg' hr, (hg'.block _ (Array.getElem?_eq_some_iff.1 hs.2).1 (fun e => by have := (hr _ e.symm).2.1; omega)).trans hs.2⟩
  case oJx =>
    rintro s A B row ⟨cc, hs⟩ hg' hr
    exact ⟨cc, hIxp cc s A B row hs.1 hg' hr, (hg'.block _ (Array.getElem?_eq_some_iff.1 hs.2).1 (fun e => by have := (hr _ e.symm).2.1; omega)).trans hs.2⟩
  case behind =>
    rintro e W2 ⟨⟨v, rfl⟩, (⟨hi, hl⟩ | ⟨q, hq, cc, hi, hl⟩)⟩
    · have he := run_endLoop (P := Try.prog) hl (by rw [hR]; simp)
      rw [hR] at he
      exact ⟨none, _, he, hdone _ (hI _ W2 _ _ hi (grownBy_putObj' W2 _ _) (fun r e => by cases e; exact ⟨by omega, _, hl, rfl⟩))⟩
    · have he := run_endLoop (P := Try.prog) hl (by rw [hR]; simp)
      rw [hR] at he
      exact ⟨some cc, _, he, hstop cc q _ hq (hIx cc _ W2 _ _ hi (grownBy_putObj' W2 _ _) (fun r e => by cases e; exact ⟨by omega, _, hl, rfl⟩))⟩
  case round =>
    rintro pre x W ⟨hi, hl⟩ hlen
    rw [hR] at hl
    obtain ⟨fn', t', as', bo', hy, hRd⟩ := round_q (encs := encs) (p := p) (c := c) (n := w.heap.size) (L := w.heap.size) hfn (by omega) hp I Ix hI hIx Ax hAx pre x W (hps x) hl (fun K hK => hassign _ pre x W K hi hK) (fun a' W' hl' hi' hax => hbody _ pre x a' W' (by omega) hl' hi' hax hlen)
    refine ⟨fn', t', as', bo', hy, hRd.mono ?_⟩
    rintro e W' ⟨hb, (⟨he, hi', hl', hkp⟩ | ⟨he, hkp, cc, hi', hl'⟩)⟩
    · exact .inl ⟨he, ⟨hi', by rw [hR]; exact hl'⟩, hkp⟩
    · exact .inr ⟨he, ⟨cc, hi', by rw [hR]; exact hl'⟩, hkp⟩
end Go.Proofs.Ytccokdfkmppohaa

/- Rows of one's own: small laws. -/
namespace Go.Proofs.Ytccokdfkmppohaa
open Go.RowKit

theorem addr_add (b off i : Nat) : (⟨b, off, none⟩ : Addr).add i = ⟨b, off + i, none⟩ := by unfold Addr.add; split <;> simp_all
theorem own_later {w w' : World} {B : Nat} {e : TypeId} {size : Nat} {v : Value} {n : Nat} {xs : List Value} (h : w.ownsRow B e size v n xs) (hb : Below w.heap.size w w') : w'.ownsRow B e size v n xs := by
  refine ⟨h.1, ?_⟩
  rcases h.2 with h | ⟨g, cap, cur, h1, h2, h3, h4⟩
  · exact .inl h
  · exact .inr ⟨g, cap, cur, h1, h2, (hb.block g (Array.getElem?_eq_some_iff.1 h3).1).trans h3, h4⟩
theorem own_capR {w : World} {base : Nat} {e : TypeId} {size n cap : Nat} {a : Option Addr} {xs : List Value} (h : w.ownsRow base e size (.slice a n cap) n xs) : n ≤ cap := by
  rcases h.2 with ⟨e1, h0⟩ | ⟨g, c, cur, e1, _, _, hc, _⟩
  · omega
  · cases e1; exact hc
end Go.Proofs.Ytccokdfkmppohaa

/- Rows of cells in memory; a row of one's own that grows within a loop over an iterator. -/
namespace Go.Proofs.Ytccokdfkmppohaa
open Go.RowKit Go.Shelf

/-- A row of cells in memory. -/
def RowC (W : World) (a : Option Addr) (zs : List (Int × Int)) : Prop :=
  zs = [] ∨ ∃ b o, a = some ⟨b, o, none⟩ ∧ ∀ i z, zs[i]? = some z → W.cell? ⟨b, o + i * 2, none⟩ = some (.int .i64 z.1) ∧ W.cell? ⟨b, o + i * 2 + 1, none⟩ = some (.int .i64 z.2)
theorem RowC.below {W W' : World} {a : Option Addr} {zs : List (Int × Int)} (h : RowC W a zs) (hb : Below W.heap.size W W') : RowC W' a zs := by
  rcases h with h | ⟨b, o, h1, h2⟩
  · exact .inl h
  · exact .inr ⟨b, o, h1, fun i z hz => ⟨cell_later hb (h2 i z hz).1, cell_later hb (h2 i z hz).2⟩⟩
theorem RowC.cell {W : World} {a : Option Addr} {zs : List (Int × Int)} (h : RowC W a zs) {k : Nat} (hk : k < zs.length) : ∃ b o, a = some ⟨b, o, none⟩ ∧ W.cell? ⟨b, o + k * 2, none⟩ = some (.int .i64 zs[k].1) ∧ W.cell? ⟨b, o + k * 2 + 1, none⟩ = some (.int .i64 zs[k].2) := by
  rcases h with rfl | ⟨b, o, h1, h2⟩
  · simp at hk
  · exact ⟨b, o, h1, (h2 k _ (List.getElem?_eq_getElem hk)).1, (h2 k _ (List.getElem?_eq_getElem hk)).2⟩
def flatC (zs : List (Int × Int)) : List Value := zs.flatMap (fun z => [.int .i64 z.1, .int .i64 z.2])
theorem flatC_snoc (zs : List (Int × Int)) (z : Int × Int) : flatC (zs ++ [z]) = flatC zs ++ [.int .i64 z.1, .int .i64 z.2] := by simp [flatC, List.flatMap_append]
theorem flatC_at : ∀ (zs : List (Int × Int)) (i : Nat) (z : Int × Int), zs[i]? = some z → (flatC zs)[i * 2]? = some (.int .i64 z.1) ∧ (flatC zs)[i * 2 + 1]? = some (.int .i64 z.2)
  | [], i, z, h => by simp at h
  | y :: zs, 0, z, h => by simp at h; subst h; simp [flatC]
  | y :: zs, i + 1, z, h => by
    have := flatC_at zs i z (by simpa using h)
    have e : flatC (y :: zs) = .int .i64 y.1 :: .int .i64 y.2 :: flatC zs := rfl
    rw [e, show (i + 1) * 2 = i * 2 + 1 + 1 by omega]
    simpa using this
theorem rowC_of_own {w : World} {base : Nat} {v : Value} {zs : List (Int × Int)} (h : w.ownsRow base 26 2 v zs.length (flatC zs)) : ∃ a cap, v = .slice a zs.length cap ∧ RowC w a zs := by
  have hown := h
  rcases h.2 with ⟨rfl, h0⟩ | ⟨g, cap, cur, rfl, hb, hg, _⟩
  · refine ⟨none, 0, by rw [h0], .inl (List.eq_nil_of_length_eq_zero h0)⟩
  · refine ⟨_, cap, rfl, .inr ⟨g, 0, rfl, fun i z hz => ?_⟩⟩
    obtain ⟨e0, e1⟩ := flatC_at zs i z hz
    have a0 := hown.cells (g := g) rfl _ _ e0
    have a1 := hown.cells (g := g) rfl _ _ e1
    rw [addr_add] at a0 a1
    rw [Nat.zero_add] at a0 a1 ⊢
    exact ⟨a0, a1⟩
theorem Try.infoCell : (Try.prog.info? 26).map (fun i => (i.zero, i.size, i.bytes)) = some (some (.agg #[.int .i64 0, .int .i64 0]), 2, 16) := by kernel_rfl


/-- What such a loop holds: its row, in a box m; what lies below p lies as it lay. -/
def RowI (p : Nat) (w : World) (m : Nat) (pre : List (Int × Int)) (W : World) : Prop := Below p w W ∧ ∃ v, Boxed W m 38 v ∧ W.ownsRow m 26 2 v pre.length (flatC pre) ∧ True
theorem rowI_own {p n₁ : Nat} {w : World} (hn : p ≤ n₁) (hp : p ≤ w.heap.size) (m : Nat) : OwnFrom n₁ (RowI p w m) := fun s C D row hs hg hr =>
  ⟨hs.1.grown hg (Nat.le_trans hp hs.1.size) (fun r e => Nat.le_trans hn (hr r e).1), holdsRow_own m m 38 26 2 (fun s : List (Int × Int) => s.length) flatC (fun _ _ => True) s C D row hs.2 hg (fun r e => (hr r e).2)⟩
theorem rowI_abp {p c : Nat} {w : World} {m : Nat} (hc : p + c ≤ m) (hp : p ≤ w.heap.size) : AbP p c (RowI p w m) := by
  rintro s A B row ⟨hb, v, hv, hr, _⟩ hg hrow
  refine ⟨hb.grown hg (Nat.le_trans hp hb.size) (fun r e => (hrow r e).1), v, hv.kept hg (fun e => ?_), hr.kept hg ?_, trivial⟩
  · have := (hrow m e.symm).2.1
    omega
  · rcases hr.2 with ⟨rfl, _⟩ | ⟨g, cap, cur, rfl, hgm, _⟩
    · exact .inl rfl
    · refine .inr fun e => ?_
      have := (hrow g (by simpa [Value.ownBlock] using e.symm)).2.1
      omega
end Go.Proofs.Ytccokdfkmppohaa

/- The contracts of the library that this program calls, as the kit lays them: by name. -/
namespace Go.Proofs
open Go.Shelf
def Try.lays135_ren : Go.Shelf.Ren := ⟨fun | 135 => 35 | n => n, fun | 5 => 5 | 3 => 3 | 9 => 9 | n => n, fun | n => n⟩
theorem Try.lays135 : Go.Proofs.Lays.n135 Try.prog Try.lays135_ren := {
  mixed := by kernel_rfl
  f135 := Try.func35.trans (congrArg some (by kernel_rfl))
  t3 := Try.underlying3
  a3 := Try.isAgg3
  z3 := Try.sizeOf3
  v3 := Try.zeroValue3
  t5 := Try.underlying5
  a5 := Try.isAgg5
  z5 := Try.sizeOf5
  v5 := Try.zeroValue5
  t9 := Try.underlying9
  a9 := Try.isAgg9
  z9 := Try.sizeOf9
  v9 := Try.zeroValue9 }
theorem Try.bits_OnesCount8 (x : Int) (w : World) (h0 : 0 ≤ x) (h1 : x ≤ 255) :
    Calls Try.prog 35 #[.int .u8 x] w fun e w' => e = .returned (.int .i64 (Lib.onesCount x.toNat)) ∧ w' = w := Any.bits_OnesCount8 Try.lays135 x w h0 h1
def Try.lays136_ren : Go.Shelf.Ren := ⟨fun | 136 => 42 | n => n, fun | 5 => 5 | 3 => 3 | 9 => 9 | n => n, fun | n => n⟩
theorem Try.lays136 : Go.Proofs.Lays.n136 Try.prog Try.lays136_ren := {
  mixed := by kernel_rfl
  f136 := Try.func42.trans (congrArg some (by kernel_rfl))
  t3 := Try.underlying3
  a3 := Try.isAgg3
  z3 := Try.sizeOf3
  v3 := Try.zeroValue3
  t5 := Try.underlying5
  a5 := Try.isAgg5
  z5 := Try.sizeOf5
  v5 := Try.zeroValue5
  t9 := Try.underlying9
  a9 := Try.isAgg9
  z9 := Try.sizeOf9
  v9 := Try.zeroValue9 }
theorem Try.bits_TrailingZeros8 (x : Int) (w : World) (h0 : 0 ≤ x) (h1 : x ≤ 255) :
    Calls Try.prog 42 #[.int .u8 x] w fun e w' => e = .returned (.int .i64 (Lib.trailingZeros8 x.toNat)) ∧ w' = w := Any.bits_TrailingZeros8 Try.lays136 x w h0 h1
end Go.Proofs

/- Package mask: its small functions: how many bytes a set has, where a bit stands, which bits are no cell's. -/
namespace Go.Proofs.Ytccokdfkmppohaa
open Go.RowKit

set_option maxHeartbeats 400000 in
theorem length_any (W H : Int) (w : World) (hm : mayB W H = true) :
    Calls Try.prog 37 #[.agg #[.int .i64 W, .int .i64 H]] w fun e w' => e = .returned (.int .i64 ((W * H + 7) / 8)) ∧ Below w.heap.size w w' := by
  obtain ⟨h1, h2, h3, h4⟩ := mayB_iff.1 hm
  obtain ⟨m1, m2⟩ : 0 ≤ W * H ∧ W * H ≤ 65536 := ⟨Int.mul_nonneg (by omega) (by omega), by have a : W * H ≤ 256 * H := Int.mul_le_mul_of_nonneg_right h2 (by omega); omega⟩
  go_enter Try.func37, Try.ntmps37
  go_wp2
  go_ret
  exact ⟨rfl, bl_al (bl0 _) _⟩

set_option maxHeartbeats 400000 in
theorem place_any (i : Int) (w : World) (h0 : 0 ≤ i) (h1 : i ≤ 65536) :
    Calls Try.prog 36 #[.int .i64 i] w fun e w' => e = .returned (.tuple #[.int .i64 (i / 8), .int .u8 (2 ^ (i % 8).toNat % 256)]) ∧ Below w.heap.size w w' := by
  go_enter Try.func36, Try.ntmps36
  go_wp2
  go_quiet (fail)
  go_wp2
  go_ret2
  exact ⟨rfl, bl_drn _ _⟩

end Go.Proofs.Ytccokdfkmppohaa

/- Sets of cells cs bytes: the mathematics. -/
namespace Go.Proofs.Ytccokdfkmppohaa
open Go.RowKit

/-! The bits of a byte cs the program reckons them -/
theorem u8_or (a b : Nat) (ha : a < 256) (hb : b < 256) : bits .or .u8 (a : Int) (b : Int) = ((a ||| b : Nat) : Int) := by
  have h : (a ||| b) < 256 := Nat.or_lt_two_pow (n := 8) ha hb
  have e : (BitVec.ofNat 8 a ||| BitVec.ofNat 8 b).toNat = a ||| b := by rw [BitVec.toNat_or, BitVec.toNat_ofNat, BitVec.toNat_ofNat, Nat.mod_eq_of_lt ha, Nat.mod_eq_of_lt hb]
  have e' : (BitVec.ofInt 8 (a : Int) ||| BitVec.ofInt 8 (b : Int)).toNat = a ||| b := by rw [BitVec.ofInt_natCast, BitVec.ofInt_natCast]; exact e
  show IntKind.u8.wrap (((BitVec.ofInt 8 (a : Int) ||| BitVec.ofInt 8 (b : Int)).toNat : Nat) : Int) = _
  rw [e']
  exact IntWalk.u8_in _ (by omega)
theorem u8_and (a b : Nat) (ha : a < 256) (hb : b < 256) : bits .and .u8 (a : Int) (b : Int) = ((a &&& b : Nat) : Int) := by
  have h : (a &&& b) < 256 := Nat.lt_of_le_of_lt Nat.and_le_left ha
  have e : (BitVec.ofNat 8 a &&& BitVec.ofNat 8 b).toNat = a &&& b := by rw [BitVec.toNat_and, BitVec.toNat_ofNat, BitVec.toNat_ofNat, Nat.mod_eq_of_lt ha, Nat.mod_eq_of_lt hb]
  have e' : (BitVec.ofInt 8 (a : Int) &&& BitVec.ofInt 8 (b : Int)).toNat = a &&& b := by rw [BitVec.ofInt_natCast, BitVec.ofInt_natCast]; exact e
  show IntKind.u8.wrap (((BitVec.ofInt 8 (a : Int) &&& BitVec.ofInt 8 (b : Int)).toNat : Nat) : Int) = _
  rw [e']
  exact IntWalk.u8_in _ (by omega)
theorem u8_xor (a b : Nat) (ha : a < 256) (hb : b < 256) : bits .xor .u8 (a : Int) (b : Int) = ((a ^^^ b : Nat) : Int) := by
  have h : (a ^^^ b) < 256 := Nat.xor_lt_two_pow (n := 8) ha hb
  have e : (BitVec.ofNat 8 a ^^^ BitVec.ofNat 8 b).toNat = a ^^^ b := by rw [BitVec.toNat_xor, BitVec.toNat_ofNat, BitVec.toNat_ofNat, Nat.mod_eq_of_lt ha, Nat.mod_eq_of_lt hb]
  have e' : (BitVec.ofInt 8 (a : Int) ^^^ BitVec.ofInt 8 (b : Int)).toNat = a ^^^ b := by rw [BitVec.ofInt_natCast, BitVec.ofInt_natCast]; exact e
  show IntKind.u8.wrap (((BitVec.ofInt 8 (a : Int) ^^^ BitVec.ofInt 8 (b : Int)).toNat : Nat) : Int) = _
  rw [e']
  exact IntWalk.u8_in _ (by omega)
theorem u8_andNot (a b : Nat) (ha : a < 256) (hb : b < 256) : bits .andNot .u8 (a : Int) (b : Int) = ((a &&& (255 - b) : Nat) : Int) := by
  have h : (a &&& (255 - b)) < 256 := Nat.lt_of_le_of_lt Nat.and_le_left ha
  have e : (BitVec.ofNat 8 a &&& ~~~(BitVec.ofNat 8 b)).toNat = a &&& (255 - b) := by rw [BitVec.toNat_and, BitVec.toNat_not, BitVec.toNat_ofNat, BitVec.toNat_ofNat, Nat.mod_eq_of_lt ha, Nat.mod_eq_of_lt hb]
  have e' : (BitVec.ofInt 8 (a : Int) &&& ~~~(BitVec.ofInt 8 (b : Int))).toNat = a &&& (255 - b) := by rw [BitVec.ofInt_natCast, BitVec.ofInt_natCast]; exact e
  show IntKind.u8.wrap (((BitVec.ofInt 8 (a : Int) &&& ~~~(BitVec.ofInt 8 (b : Int))).toNat : Nat) : Int) = _
  rw [e']
  exact IntWalk.u8_in _ (by omega)

theorem and_pow_bit (o k : Nat) : (o &&& 2 ^ k != 0) = o.testBit k := by
  cases hb : o.testBit k
  · have : o &&& 2 ^ k = 0 := by
      apply Nat.eq_of_testBit_eq
      intro i
      rw [Nat.testBit_and, Nat.testBit_two_pow]
      by_cases hi : k = i
      · subst hi; simp [hb]
      · simp [hi]
    simp [this]
  · have h1 : (o &&& 2 ^ k).testBit k = true := by rw [Nat.testBit_and, hb]; simp
    rw [bne_iff_ne]
    intro h0
    rw [h0] at h1
    simp at h1

/-! A set's bytes -/
def IsBytes (bs : List Nat) : Prop := ∀ x ∈ bs, x < 256
def bitAt (bs : List Nat) (i : Nat) : Bool := (bs.getD (i / 8) 0).testBit (i % 8)
def setB (bs : List Nat) (i : Nat) (v : Bool) : List Nat := bs.set (i / 8) (if v then bs.getD (i / 8) 0 ||| 2 ^ (i % 8) else bs.getD (i / 8) 0 &&& (255 - 2 ^ (i % 8)))
theorem setB_len (bs : List Nat) (i : Nat) (v : Bool) : (setB bs i v).length = bs.length := by simp [setB]
theorem IsBytes.getD {bs : List Nat} (h : IsBytes bs) (k : Nat) : bs.getD k 0 < 256 := by
  rw [List.getD_eq_getElem?_getD]
  cases e : bs[k]? with
  | none => simp
  | some x => simpa using h x (List.mem_of_getElem? e)
theorem pow8 (i : Nat) : 2 ^ (i % 8) < 256 := by
  have : i % 8 < 8 := Nat.mod_lt _ (by omega)
  calc 2 ^ (i % 8) < 2 ^ 8 := Nat.pow_lt_pow_right (by omega) this
    _ = 256 := rfl
theorem setB_bytes {bs : List Nat} (h : IsBytes bs) (i : Nat) (v : Bool) : IsBytes (setB bs i v) := by
  intro x hx
  rcases List.mem_or_eq_of_mem_set hx with hx | rfl
  · exact h x hx
  · have hg := h.getD (i / 8)
    cases v
    · exact Nat.lt_of_le_of_lt Nat.and_le_left hg
    · exact Nat.or_lt_two_pow (n := 8) hg (pow8 i)
theorem bitAt_setB {bs : List Nat} (i j : Nat) (v : Bool) (hi : i / 8 < bs.length) : bitAt (setB bs i v) j = if j = i then v else bitAt bs j := by
  unfold bitAt setB
  by_cases hj : j / 8 = i / 8
  · rw [hj, List.getD_eq_getElem?_getD, List.getElem?_set_self hi, Option.getD_some]
    by_cases hji : j = i
    · subst hji
      cases v
      · rw [if_pos rfl]
        simp only [Bool.false_eq_true, if_false, Nat.testBit_and]
        rw [show 255 - 2 ^ (j % 8) = 2 ^ 8 - (2 ^ (j % 8) + 1) by have := pow8 j; omega, Nat.testBit_two_pow_sub_succ (pow8 j)]
        simp
      · simp
    · have hne : i % 8 ≠ j % 8 := by omega
      have h8 : j % 8 < 8 := Nat.mod_lt _ (by omega)
      rw [if_neg hji]
      cases v
      · simp only [Bool.false_eq_true, if_false, Nat.testBit_and]
        rw [show 255 - 2 ^ (i % 8) = 2 ^ 8 - (2 ^ (i % 8) + 1) by have := pow8 i; omega, Nat.testBit_two_pow_sub_succ (pow8 i)]
        simp [hne, h8]
      · simp [Nat.testBit_or, hne]
  · have hji : j ≠ i := fun e => hj (by rw [e])
    rw [if_neg hji, List.getD_eq_getElem?_getD, List.getElem?_set_ne (Ne.symm hj), ← List.getD_eq_getElem?_getD]
theorem bitAt_out {bs : List Nat} {i : Nat} (h : 8 * bs.length ≤ i) : bitAt bs i = false := by
  unfold bitAt
  rw [List.getD_eq_getElem?_getD, List.getElem?_eq_none (by omega)]
  simp
/-- Bytes with the same bits are the same. -/
theorem ext_bits {cs bs : List Nat} (ha : IsBytes cs) (hb : IsBytes bs) (hl : cs.length = bs.length) (h : ∀ i, i < 8 * cs.length → bitAt cs i = bitAt bs i) : cs = bs := by
  apply List.ext_getElem hl
  intro k h1 h2
  apply Nat.eq_of_testBit_eq
  intro i
  by_cases hi : i < 8
  · have := h (8 * k + i) (by omega)
    unfold bitAt at this
    rw [show (8 * k + i) / 8 = k by omega, show (8 * k + i) % 8 = i by omega] at this
    simpa [List.getD_eq_getElem?_getD, h1, h2] using this
  · have h256 : 256 ≤ 2 ^ i := Nat.le_trans (show 256 ≤ 2 ^ 8 by decide) (Nat.pow_le_pow_right (by decide) (by omega))
    have hx : cs[k] < 2 ^ i := Nat.lt_of_lt_of_le (ha _ (List.getElem_mem h1)) h256
    have hy : bs[k] < 2 ^ i := Nat.lt_of_lt_of_le (hb _ (List.getElem_mem h2)) h256
    rw [Nat.testBit_lt_two_pow hx, Nat.testBit_lt_two_pow hy]

/-! Two sets joined byte by byte -/
def joinB (f : Nat → Nat → Nat) (cs bs : List Nat) : List Nat := List.zipWith f cs bs
theorem joinB_len (f : Nat → Nat → Nat) {cs bs : List Nat} (h : cs.length = bs.length) : (joinB f cs bs).length = cs.length := by simp [joinB, h]
theorem joinB_getD (f : Nat → Nat → Nat) (hf : f 0 0 = 0) {cs bs : List Nat} (h : cs.length = bs.length) (k : Nat) : (joinB f cs bs).getD k 0 = f (cs.getD k 0) (bs.getD k 0) := by
  simp only [joinB, List.getD_eq_getElem?_getD, List.getElem?_zipWith]
  by_cases hk : k < cs.length
  · rw [List.getElem?_eq_getElem hk, List.getElem?_eq_getElem (h ▸ hk)]; rfl
  · rw [List.getElem?_eq_none (by omega), List.getElem?_eq_none (by omega)]; simp [hf]
theorem bitAt_or {cs bs : List Nat} (h : cs.length = bs.length) (i : Nat) : bitAt (joinB (· ||| ·) cs bs) i = (bitAt cs i || bitAt bs i) := by
  unfold bitAt; rw [joinB_getD _ rfl h]; exact Nat.testBit_or _ _ _
theorem bitAt_and {cs bs : List Nat} (h : cs.length = bs.length) (i : Nat) : bitAt (joinB (· &&& ·) cs bs) i = (bitAt cs i && bitAt bs i) := by
  unfold bitAt; rw [joinB_getD _ rfl h]; exact Nat.testBit_and _ _ _
theorem joinB_bytes {f : Nat → Nat → Nat} (hf : ∀ a b, a < 256 → b < 256 → f a b < 256) {cs bs : List Nat} (ha : IsBytes cs) (hb : IsBytes bs) : IsBytes (joinB f cs bs) := by
  intro x hx
  obtain ⟨k, hk⟩ := List.getElem?_of_mem hx
  rw [joinB, List.getElem?_zipWith] at hk
  split at hk
  · rename_i a b h1 h2
    simp at hk; subst hk
    exact hf _ _ (ha _ (List.mem_of_getElem? h1)) (hb _ (List.mem_of_getElem? h2))
  · simp at hk
theorem or_lt8 (a b : Nat) (ha : a < 256) (hb : b < 256) : a ||| b < 256 := Nat.or_lt_two_pow (n := 8) ha hb
theorem and_lt8 (a b : Nat) (ha : a < 256) (_ : b < 256) : a &&& b < 256 := Nat.lt_of_le_of_lt Nat.and_le_left ha
end Go.Proofs.Ytccokdfkmppohaa

/- Package mask: how a set lies in memory; Set and Has. -/
namespace Go.Proofs.Ytccokdfkmppohaa
open Go.RowKit

/-- A set at block b, its bytes at block h. -/
def MaskAt (W : World) (b h : Nat) (X Y : Int) (bs : List Nat) : Prop :=
  W.heap[b]? = some (.cells #[.int .i64 X, .int .i64 Y, .slice (some ⟨h, 0, none⟩) bs.length bs.length] 83 (0, 0)) ∧
  W.heap[h]? = some (.cells (bs.map (fun x : Nat => Value.int .u8 (x : Int))).toArray 5 (0, 0))
theorem MaskAt.c0 {W : World} {b h : Nat} {X Y : Int} {bs : List Nat} (m : MaskAt W b h X Y bs) : W.cell? ⟨b, 0, none⟩ = some (.int .i64 X) := by simp [World.cell?, m.1]
theorem MaskAt.c1 {W : World} {b h : Nat} {X Y : Int} {bs : List Nat} (m : MaskAt W b h X Y bs) : W.cell? ⟨b, 1, none⟩ = some (.int .i64 Y) := by simp [World.cell?, m.1]
theorem MaskAt.c2 {W : World} {b h : Nat} {X Y : Int} {bs : List Nat} (m : MaskAt W b h X Y bs) : W.cell? ⟨b, 2, none⟩ = some (.slice (some ⟨h, 0, none⟩) bs.length bs.length) := by simp [World.cell?, m.1]
theorem MaskAt.at {W : World} {b h k : Nat} {X Y : Int} {bs : List Nat} (m : MaskAt W b h X Y bs) {x : Nat} (hk : bs[k]? = some x) : W.cell? ⟨h, k, none⟩ = some (.int .u8 (x : Int)) := by simp [World.cell?, m.2, hk]
theorem MaskAt.fz {W : World} {b h k : Nat} {X Y : Int} {bs : List Nat} (m : MaskAt W b h X Y bs) : W.frozen? ⟨h, k, none⟩ = false := by simp [World.frozen?, m.2]
theorem MaskAt.lt {W : World} {b h : Nat} {X Y : Int} {bs : List Nat} (m : MaskAt W b h X Y bs) : b < W.heap.size ∧ h < W.heap.size := ⟨(Array.getElem?_eq_some_iff.1 m.1).1, (Array.getElem?_eq_some_iff.1 m.2).1⟩
theorem MaskAt.kept {W W' : World} {row : Option Nat} {b h : Nat} {X Y : Int} {bs : List Nat} (m : MaskAt W b h X Y bs) (hg : W.grownBy W' row) (hb : some b ≠ row) (hh : some h ≠ row) : MaskAt W' b h X Y bs :=
  ⟨(hg.block b m.lt.1 hb).trans m.1, (hg.block h m.lt.2 hh).trans m.2⟩
theorem MaskAt.below {W W' : World} {b h : Nat} {X Y : Int} {bs : List Nat} (m : MaskAt W b h X Y bs) (hb : Below W.heap.size W W') : MaskAt W' b h X Y bs :=
  ⟨(hb.block b m.lt.1).trans m.1, (hb.block h m.lt.2).trans m.2⟩

theorem grown_tr {A B C : World} {row : Option Nat} (h : A.grownBy B row) (k : B.grownBy C row) : A.grownBy C row :=
  ⟨k.os.trans h.os, k.tape.trans h.tape, k.output.trans h.output, Nat.le_trans h.size k.size, fun i hi hr => (k.block i (Nat.lt_of_lt_of_le hi h.size) hr).trans (h.block i hi hr)⟩
theorem grown_weak {A B : World} (h : A.grownBy B none) (row : Option Nat) : A.grownBy B row := ⟨h.os, h.tape, h.output, h.size, fun i hi _ => h.block i hi (by simp)⟩
theorem grown_set (W : World) (h k : Nat) (u : Value) : W.grownBy (W.setCell ⟨h, k, none⟩ u) (some h) :=
  ⟨rfl, rfl, rfl, by simp, fun i _ hi => Below.heap_setCell _ _ _ i (fun e => hi (by rw [e]))⟩

/-- What a set's bytes are: as many as its cells need, and no bit beyond its cells. -/
def Good (X Y : Int) (bs : List Nat) : Prop := mayB X Y = true ∧ (bs.length : Int) = (X * Y + 7) / 8 ∧ IsBytes bs ∧ ∀ i : Nat, X * Y ≤ (i : Int) → bitAt bs i = false

theorem idx_lt {X Y x y : Int} (hi : inB X Y x y = true) : 0 ≤ y * X + x ∧ y * X + x < X * Y := by
  obtain ⟨h1, h2, h3, h4, h5, h6, h7, h8⟩ := inB_iff.1 hi
  have a : 0 ≤ y * X := Int.mul_nonneg h7 (by omega)
  have b : (y + 1) * X ≤ Y * X := Int.mul_le_mul_of_nonneg_right (by omega) (by omega)
  rw [Int.add_mul, Int.one_mul] at b
  rw [Int.mul_comm X Y]
  omega
theorem Good.idx {X Y x y : Int} {bs : List Nat} (g : Good X Y bs) (hi : inB X Y x y = true) : (y * X + x).toNat / 8 < bs.length := by
  obtain ⟨a, b⟩ := idx_lt hi
  have := g.2.1
  omega
theorem Good.small {X Y : Int} {bs : List Nat} (g : Good X Y bs) : bs.length ≤ 65536 := by
  obtain ⟨h1, h2, h3, h4⟩ := mayB_iff.1 g.1
  have a : X * Y ≤ 256 * Y := Int.mul_le_mul_of_nonneg_right h2 (by omega)
  have := g.2.1
  omega
theorem Good.set {X Y x y : Int} {bs : List Nat} (g : Good X Y bs) (hi : inB X Y x y = true) (v : Bool) : Good X Y (setB bs (y * X + x).toNat v) := by
  obtain ⟨a, b⟩ := idx_lt hi
  refine ⟨g.1, by rw [setB_len]; exact g.2.1, setB_bytes g.2.2.1 _ _, fun i hX => ?_⟩
  rw [bitAt_setB _ _ _ (g.idx hi), if_neg (by omega)]
  exact g.2.2.2 i hX

theorem heap_set_same (w : World) (g i : Nat) (cs : Array Value) (t : TypeId) (v : Value) (hg : w.heap[g]? = some (.cells cs t (0, 0))) : (w.setCell ⟨g, i, none⟩ v).heap[g]? = some (.cells (cs.setIfInBounds i v) t (0, 0)) := heap_setCell_same w g i cs t v hg
theorem MaskAt.set {W : World} {b h : Nat} {X Y : Int} {bs : List Nat} (m : MaskAt W b h X Y bs) (hne : b ≠ h) (n : Nat) (v : Bool) {u : Int} (hu : u = ((if v then bs.getD (n / 8) 0 ||| 2 ^ (n % 8) else bs.getD (n / 8) 0 &&& (255 - 2 ^ (n % 8)) : Nat) : Int)) :
    MaskAt (W.setCell ⟨h, n / 8, none⟩ (.int .u8 u)) b h X Y (setB bs n v) := by
  subst hu
  refine ⟨(Below.heap_setCell _ _ _ b (show b ≠ h from hne)).trans (by rw [setB_len]; exact m.1), ?_⟩
  rw [heap_set_same _ _ _ _ _ _ m.2]
  simp [setB, List.map_set]

set_option maxHeartbeats 1600000 in
theorem set_yes (b h : Nat) (X Y x y : Int) (bs : List Nat) (v : Bool) (w : World) (hm : MaskAt w b h X Y bs) (hg : Good X Y bs) (hne : b ≠ h) (hi : inB X Y x y = true) :
    Calls Try.prog 28 #[.pointer (some ⟨b, 0, none⟩), .agg #[.int .i64 x, .int .i64 y], .bool v] w fun e w' => e = .returned (.int .i64 0) ∧ MaskAt w' b h X Y (setB bs (y * X + x).toNat v) ∧ w.grownBy w' (some h) := by
  obtain ⟨i0, i1⟩ := idx_lt hi
  have hix := hg.idx hi
  obtain ⟨o, ho⟩ : ∃ o, bs[(y * X + x).toNat / 8]? = some o := ⟨_, List.getElem?_eq_getElem hix⟩
  have hod : bs.getD ((y * X + x).toNat / 8) 0 = o := by rw [List.getD_eq_getElem?_getD, ho]; rfl
  have hob : o < 256 := hg.2.2.1 o (List.mem_of_getElem? ho)
  have hk : (y * X + x).toNat / 8 = ((y * X + x) / 8).toNat := by omega
  have hp := pow8 (y * X + x).toNat
  have hp2 : (2 : Int) ^ ((y * X + x) % 8).toNat % 256 = ((2 ^ ((y * X + x).toNat % 8) : Nat) : Int) := by
    have e1 : ((y * X + x) % 8).toNat = (y * X + x).toNat % 8 := by omega
    have e2 : ((2 ^ ((y * X + x).toNat % 8) : Nat) : Int) = (2 : Int) ^ ((y * X + x).toNat % 8) := by simp
    rw [e1, ← e2]; exact Int.emod_eq_of_lt (Int.natCast_nonneg _) (Int.ofNat_lt.2 hp)
  have hor : v = true → bits .or .u8 (o : Int) ((2 : Int) ^ ((y * X + x) % 8).toNat % 256) = ((if v then bs.getD ((y * X + x).toNat / 8) 0 ||| 2 ^ ((y * X + x).toNat % 8) else bs.getD ((y * X + x).toNat / 8) 0 &&& (255 - 2 ^ ((y * X + x).toNat % 8)) : Nat) : Int) := by
    intro hv; rw [hp2, u8_or _ _ hob hp, hod, hv]; rfl
  have han : v = false → bits .andNot .u8 (o : Int) ((2 : Int) ^ ((y * X + x) % 8).toNat % 256) = ((if v then bs.getD ((y * X + x).toNat / 8) 0 ||| 2 ^ ((y * X + x).toNat % 8) else bs.getD ((y * X + x).toNat / 8) 0 &&& (255 - 2 ^ ((y * X + x).toNat % 8)) : Nat) : Int) := by
    intro hv; rw [hp2, u8_andNot _ _ hob hp, hod, hv]; rfl
  have HO := Lib.hid hor
  have HN := Lib.hid han
  have HK := Lib.hid hk
  rw [hk] at ho hix
  have c0 := hm.c0
  have c1 := hm.c1
  have c2 := hm.c2
  have q := hm.at ho
  have fz := hm.fz (k := ((y * X + x) / 8).toNat)
  have z0 := hm.lt.1
  have z1 := hm.lt.2
  have k0 : 0 ≤ (y * X + x) / 8 := by omega
  have k1 : (y * X + x) / 8 < (bs.length : Int) := by omega
  have i2 : y * X + x ≤ 65536 := by
    obtain ⟨h1, h2, h3, h4, h5, h6, h7, h8⟩ := inB_iff.1 hi
    have := (mul_bd h7 (by omega) h1 h2).2
    omega
  clear hor han hp2 hod hk ho hp hob
  go_enter Try.func28, Try.ntmps28
  go_wp2_with fail
  obtain ⟨w1, hw1⟩ : ∃ w1, w.alloc (.cells #[.int .i64 x, .int .i64 y] 26) = w1 := ⟨_, rfl⟩
  have hb1 : Below w.heap.size w w1 := by rw [← hw1]; exact bl_al (bl0 _) _
  have d0 : w1.cell? ⟨w.heap.size, 0, none⟩ = some (.int .i64 x) := by rw [← hw1]; simp [go_sem]
  have d1 : w1.cell? ⟨w.heap.size, 1, none⟩ = some (.int .i64 y) := by rw [← hw1]; simp [go_sem]
  replace fz := frozen_later hb1 q fz
  replace c0 := cell_later hb1 c0
  replace c1 := cell_later hb1 c1
  replace c2 := cell_later hb1 c2
  replace q := cell_later hb1 q
  rw [hw1]
  clear hw1
  have hA := bl_dr (bl0 w1)
  go_region_held3 (fun w' => w'.cell? ⟨b, 0, none⟩ = some (.int .i64 X) ∧ w'.cell? ⟨b, 1, none⟩ = some (.int .i64 Y) ∧ w'.cell? ⟨w.heap.size, 0, none⟩ = some (.int .i64 x) ∧ w'.cell? ⟨w.heap.size, 1, none⟩ = some (.int .i64 y))
    (exact ⟨cell_later hA c0, cell_later hA c1, cell_later hA d0, cell_later hA d1⟩)
    ((go_at_call 32; refine (index_yes _ _ _ _ _ hi).mono ?_; rintro e W2 ⟨rfl, hb⟩; replace hA := bl_tr hA hb; clear hb))
  replace fz := frozen_later hA q fz
  replace c2 := cell_later hA c2
  replace q := cell_later hA q
  clear c0 c1 d0 d1
  go_wp2_with fail
  refine (place_any _ _ i0 i2).mono ?_
  rintro e W3 ⟨rfl, hb⟩
  replace fz := frozen_later hb q fz
  replace c2 := cell_later hb c2
  replace q := cell_later hb q
  have hm3 := ((hm.below hb1).below hA).below hb
  have hB3 := bl_tr (bl_tr hb1 hA) hb
  have HM := Lib.hid hm3
  clear hm hm3 hb hA hb1
  cases v
  case' true =>
    go_wp2
    go_ret
    have hm4 := HM.out.set hne (y * X + x).toNat true (HO.out (by trivial))
    rw [HK.out] at hm4
    exact ⟨rfl, hm4, grown_tr (grown_weak (grown_of_below hB3) _) (grown_set _ _ _ _)⟩
  case' false =>
    go_wp2
    go_ret
    have hm4 := HM.out.set hne (y * X + x).toNat false (HN.out (by trivial))
    rw [HK.out] at hm4
    exact ⟨rfl, hm4, grown_tr (grown_weak (grown_of_below hB3) _) (grown_set _ _ _ _)⟩
end Go.Proofs.Ytccokdfkmppohaa

/- A region that draws its order, inside a fence and inside rounds: what reads alone may be taken first, under a condition S on the world that every step keeps. -/
namespace Go.Proofs.Ytccokdfkmppohaa
open Go

section
variable {F : Fence} {n : Nat} {P : Program} {ops : Array Oper} {Q : Exit → Act → World → Prop} {md : Region.Mode} {S : World → Prop}

/-- From here on, in each order that may come, the region ends in Q; S holds behind each step. -/
def OrdS (F : Fence) (n : Nat) (P : Program) (md : Region.Mode) (ops : Array Oper) (Q : Exit → Act → World → Prop) (S : World → Prop) : Nat → Array Bool → Act → World → Prop
  | 0, l, a, w => Region.ready md ops l = [] ∧ Q .normal a w
  | k + 1, l, a, w => (Region.ready md ops l = [] → Q .normal a w) ∧
      ∀ i, i ∈ Region.ready md ops l → wpOpIn F n P ops Q i (fun a1 w1 => S w1 ∧ OrdS F n P md ops Q S k (l.setIfInBounds i true) a1 w1) a w

theorem OrdS.plain (k : Nat) : ∀ (l : Array Bool) (a : Act) (w : World), OrdS F n P md ops Q S k l a w → wpAnyIn F n P md ops Q k l a w := by
  induction k with
  | zero => intro l a w h; exact h
  | succ k ih => intro l a w h; exact ⟨h.1, fun i hi => wpOpIn_mono (fun a1 w1 h1 => ih _ a1 w1 h1.2) (h.2 i hi)⟩

/-- The beginning. -/
theorem ordS_begin {id : Nat} {a : Act} {w : World} (hm : P.follows .mixedOrders = true) (hS : S w.drew) (h : S w.drew → OrdS F n P .any ops Q S ops.size (Array.replicate ops.size false) a w.drew) :
    (Code.region id ops true).wpIn F n P Q a w := wpIn_region_any hm (OrdS.plain _ _ _ _ (h hS))

/-- o tells v in every world of S, and is about to call nobody. -/
def TellsS (P : Program) (ops : Array Oper) (S : World → Prop) (o : Oper) (v : Value) (a : Act) : Prop := YieldsIf P ops S o v a ∧ ∀ w, o.about P w a.eval = none

theorem TellsS.put {oi : Oper} {v : Value} {a : Act} (hs : ∀ cs b, oi.op ≠ .select cs b) (h : TellsS P ops S oi v a) {dst : Option Tmp} (hd : ∀ d, dst = some d → d ∉ oi.looksAt ops) (u : Value) : TellsS P ops S oi v (a.put dst u) :=
  ⟨h.1.of_same (execOp_put oi hs a dst u hd) (wanted_put oi a dst u hd), fun w => (about_put oi w a dst u hd).trans (h.2 w)⟩

theorem TellsS.step {i : Nat} {o : Oper} {v : Value} {a : Act} (hi : ops[i]? = some o) (hdef : ∀ c, o.op ≠ .defer c) (h : TellsS P ops S o v a) {K : Act → World → Prop} {w : World} (hS : S w)
    (hK : K (a.put o.dst v) w) : wpOpIn F n P ops Q i K a w := by
  have hno : ∀ f, o.about P w a.eval = some f → F.fn f := fun f hf => absurd hf (by rw [h.2 w]; simp)
  unfold wpOpIn
  rw [hi]
  obtain ⟨⟨hw, hv⟩ | ⟨hw, rfl⟩, _⟩ := h
  · simp only [hw, if_true]
    refine ⟨hno, ?_⟩
    rw [Oper.semAt_plain F _ _ hdef, hv w hS]
    exact hK
  · simp only [hw, Bool.false_eq_true, if_false]
    exact ⟨hno, hK⟩

/-- Who is apart from oi may come ahead of it. -/
theorem TellsS.past {j : Nat} {oi oj : Oper} {v : Value} (hj : ops[j]? = some oj) (hap : oi.apart ops oj = true) (hsi : ∀ cs b, oi.op ≠ .select cs b) (hsj : ∀ cs b, oj.op ≠ .select cs b) (hdj : ∀ c, oj.op ≠ .defer c)
    (hQ : ∀ c a w, Q (.panic c) (a.put oi.dst v) w → Q (.panic c) a w) {K : Act → World → Prop} {a : Act} {w : World} (hy : TellsS P ops S oi v a) (h : wpOpIn F n P ops Q j K (a.put oi.dst v) w) :
    wpOpIn F n P ops Q j (fun a1 w1 => TellsS P ops S oi v a1 ∧ K (a1.put oi.dst v) w1) a w := by
  obtain ⟨p1, p2, p3⟩ := Oper.apart_spec hap
  have goes : ∀ u w1, K ((a.put oi.dst v).put oj.dst u) w1 → TellsS P ops S oi v (a.put oj.dst u) ∧ K ((a.put oj.dst u).put oi.dst v) w1 := fun u w1 hk =>
    ⟨hy.put hsi p3 u, by rw [← Act.put_comm a v u p2]; exact hk⟩
  unfold wpOpIn at h ⊢
  simp only [hj] at h ⊢
  rw [wanted_put oj a oi.dst v p1, about_put oj w a oi.dst v p1] at h
  by_cases hw : Region.wanted oj (yielded ops a.tmps) = true
  case neg =>
    rw [if_neg hw] at h ⊢
    exact ⟨h.1, goes _ _ h.2⟩
  rw [if_pos hw] at h ⊢
  unfold Oper.wpIn at h ⊢
  rw [about_put oj w a oi.dst v p1, Oper.semAt_plain F _ _ hdj, execOp_put oj hsj a oi.dst v p1] at h
  rw [Oper.semAt_plain F _ _ hdj]
  refine ⟨h.1, ?_⟩
  replace h := h.2
  generalize (execOp a.eval oj).run P w = r at h ⊢
  match r with
  | .ok (.value u) w1 => exact goes u w1 h
  | .ok .skip w1 => exact goes _ w1 h
  | .ok (.defer d) w1 =>
    have hyD : TellsS P ops S oi v { a with defers := d :: a.defers } := ⟨hy.1.of_same rfl rfl, hy.2⟩
    refine ⟨hyD.put hsi p3 undef, ?_⟩
    have h' : K (({ (a.put oi.dst v) with defers := d :: (a.put oi.dst v).defers } : Act).put oj.dst undef) w1 := h
    rw [← Act.put_comm _ v undef p2, ← Act.put_defers]
    exact h'
  | .ok (.enter f args) w1 =>
    refine ⟨h.1, CallsIn.mono h.2 fun e w2 he => ?_⟩
    match e, he with
    | .returned u, he => exact goes u w2 he
    | .panicked c, he => exact hQ _ _ _ he
    | .outgrown, he => exact he
  | .ok (.row row args) w1 => exact ⟨h.1, RowsIn.mono h.2 fun u w2 he => goes u w2 he⟩
  | .ok (.round l f tmps assign body) w1 =>
    refine ⟨h.1, RoundIn.mono h.2 fun e w2 he => ?_⟩
    match e, he with
    | .returned u, he => exact goes u w2 he
    | .panicked c, he => exact hQ _ _ _ he
    | .outgrown, he => exact he
  | .halt x w1 =>
    cases x with
    | panic u => exact hQ _ _ _ h
    | _ => exact h

theorem OrdS.first {i : Nat} {oi : Oper} {v : Value} (hi : ops[i]? = some oi) (hsel : ∀ (j : Nat) (o : Oper) cs b, ops[j]? = some o → o.op ≠ .select cs b) (hdef : ∀ (j : Nat) (o : Oper) c, ops[j]? = some o → o.op ≠ .defer c)
    (hQ : ∀ c a w, Q (.panic c) (a.put oi.dst v) w → Q (.panic c) a w) (k : Nat) : ∀ (l : Array Bool) (a : Act) (w : World),
      (∀ j oj, ops[j]? = some oj → j ≠ i → l.getD j true = false → (∀ e ∈ oj.after, Region.binds md e = true → e.on ≠ i) → oi.apart ops oj = true) →
      i ∈ Region.ready md ops l → TellsS P ops S oi v a → S w → OrdS F n P md ops Q S k (l.setIfInBounds i true) (a.put oi.dst v) w → OrdS F n P md ops Q S (k + 1) l a w := by
  induction k with
  | zero =>
    intro l a w _ hr hy hS H
    refine ⟨fun h => absurd hr (by simp [h]), fun j hj => ?_⟩
    by_cases e : j = i
    · subst e
      exact hy.step hi (fun c => hdef _ _ c hi) hS ⟨hS, H⟩
    · have hm := ready_mono hj e
      rw [H.1] at hm
      cases hm
  | succ k ih =>
    intro l a w hfree hr hy hS H
    refine ⟨fun h => absurd hr (by simp [h]), fun j hj => ?_⟩
    by_cases e : j = i
    · subst e
      exact hy.step hi (fun c => hdef _ _ c hi) hS ⟨hS, H⟩
    · obtain ⟨hun, oj, hoj, hall⟩ := mem_ready.1 hj
      have hli : l.getD i true = false := (mem_ready.1 hr).1
      have hnot : ∀ x ∈ oj.after, Region.binds md x = true → x.on ≠ i := fun x hx hb heq => by
        have h1 := hall x hx hb
        rw [heq] at h1
        rcases Nat.lt_or_ge i l.size with hl | hl <;> simp_all
      have h2 := hy.past hoj (hfree j oj hoj e hun hnot) (fun cs b => hsel i oi cs b hi) (fun cs b => hsel j oj cs b hoj) (fun c => hdef j oj c hoj) hQ (H.2 j (ready_mono hj e))
      refine wpOpIn_mono (fun a1 w1 h3 => ?_) h2
      obtain ⟨hy1, hS1, H1⟩ := h3
      refine ⟨hS1, ih (l.setIfInBounds j true) a1 w1 ?_ (ready_mono hr (Ne.symm e)) hy1 hS1 (by rw [Array.setIfInBounds_comm _ _ e]; exact H1)⟩
      intro x ox hx hxi hxun hno
      refine hfree x ox hx hxi ?_ hno
      by_cases hjx : j = x
      · subst hjx; exact hun
      · rwa [getD_set_ne true hjx] at hxun

/-- No operation is a defer statement. -/
def noDefer (ops : Array Oper) : Bool := ops.all (fun o => match o.op with | .defer _ => false | _ => true)
theorem noDefer_spec (h : noDefer ops = true) (j : Nat) (o : Oper) (c : Call) (ho : ops[j]? = some o) : o.op ≠ .defer c := by
  intro e
  have := Array.all_eq_true_iff_forall_mem.1 h o (Array.mem_of_getElem? ho)
  simp [e] at this

/-- Take number i first. -/
theorem ordS_take {i : Nat} {oi : Oper} {v : Value} {k : Nat} {l : Array Bool} {a : Act} {w : World} (hi : ops[i]? = some oi) (hr : (Region.ready md ops l).contains i = true) (hf : Region.free md ops l i = true)
    (hs : Region.noSelect ops = true) (hd : noDefer ops = true) (hQ : ∀ c a w, Q (.panic c) (a.put oi.dst v) w → Q (.panic c) a w) (hS : S w)
    (hy : YieldsIf P ops S oi v a) (hab : ∀ w, oi.about P w a.eval = none) (h : OrdS F n P md ops Q S k (l.setIfInBounds i true) (a.put oi.dst v) w) : OrdS F n P md ops Q S (k + 1) l a w :=
  OrdS.first hi (Region.noSelect_spec hs) (noDefer_spec hd) hQ k l a w (Region.free_spec hi hf) (by simpa using hr) ⟨hy, hab⟩ hS h

/-- One alone may come. -/
theorem ordS_one {i : Nat} {o : Oper} {k : Nat} {l : Array Bool} {a : Act} {w : World} (hr : Region.ready md ops l = [i]) (ho : ops[i]? = some o) (hw : Region.wanted o (yielded ops a.tmps) = true)
    (h : ∀ K : Act → World → Prop, (∀ a1 w1, S w1 → OrdS F n P md ops Q S k (l.setIfInBounds i true) a1 w1 → K a1 w1) → Oper.wpIn F n P o a w K Q) : OrdS F n P md ops Q S (k + 1) l a w := by
  refine ⟨fun h0 => absurd (hr.symm.trans h0) (by simp), fun j hj => ?_⟩
  rw [hr] at hj
  obtain rfl := List.mem_singleton.1 hj
  refine wpOpIn_step ho fun K' hK' => ?_
  rw [if_pos hw]
  exact h K' fun a1 w1 hs hrest => hK' a1 w1 ⟨hs, hrest⟩

/-- One alone may come, and its guard passes it over. -/
theorem ordS_skip {i : Nat} {o : Oper} {k : Nat} {l : Array Bool} {a : Act} {w : World} (hr : Region.ready md ops l = [i]) (ho : ops[i]? = some o) (hw : Region.wanted o (yielded ops a.tmps) = false) (hF : ∀ f, F.fn f) (hS : S w)
    (h : OrdS F n P md ops Q S k (l.setIfInBounds i true) (a.put o.dst undef) w) : OrdS F n P md ops Q S (k + 1) l a w := by
  refine ⟨fun h0 => absurd (hr.symm.trans h0) (by simp), fun j hj => ?_⟩
  rw [hr] at hj
  obtain rfl := List.mem_singleton.1 hj
  refine wpOpIn_step ho fun K' hK' => ?_
  rw [if_neg (by rw [hw]; exact Bool.false_ne_true)]
  exact ⟨fun f _ => hF f, hK' _ _ ⟨hS, h⟩⟩

/-- All have come. -/
theorem ordS_done {l : Array Bool} {a : Act} {w : World} {k : Nat} (hr : Region.ready md ops l = []) (h : Q .normal a w) : OrdS F n P md ops Q S k l a w := by
  cases k with
  | zero => exact ⟨hr, h⟩
  | succ k => exact ⟨fun _ => h, by rw [hr]; simp⟩
end
end Go.Proofs.Ytccokdfkmppohaa

/- Fog: what is known, in memory; Version, Known. -/
namespace Go.Proofs.Ytccokdfkmppohaa
open Go.RowKit

/-- What is known of cells, as it lies in memory: seen, and the cost. -/
def flatM (ms : List (Option Int)) : List Value := ms.flatMap (fun o => [.bool o.isSome, .int .u16 (o.getD 0)])
theorem flatM_snoc (ms : List (Option Int)) (o : Option Int) : flatM (ms ++ [o]) = flatM ms ++ [.bool o.isSome, .int .u16 (o.getD 0)] := by simp [flatM, List.flatMap_append]
theorem flatM_len : ∀ ms : List (Option Int), (flatM ms).length = ms.length * 2
  | [] => rfl
  | o :: ms => by
    have := flatM_len ms
    have e : flatM (o :: ms) = .bool o.isSome :: .int .u16 (o.getD 0) :: flatM ms := rfl
    rw [e]
    simp
    omega
theorem flatM_at : ∀ (ms : List (Option Int)) (i : Nat) (o : Option Int), ms[i]? = some o → (flatM ms)[i * 2]? = some (.bool o.isSome) ∧ (flatM ms)[i * 2 + 1]? = some (.int .u16 (o.getD 0))
  | [], i, o, h => by simp at h
  | y :: ms, 0, o, h => by simp at h; subst h; simp [flatM]
  | y :: ms, i + 1, o, h => by
    have := flatM_at ms i o (by simpa using h)
    have e : flatM (y :: ms) = .bool y.isSome :: .int .u16 (y.getD 0) :: flatM ms := rfl
    rw [e, show (i + 1) * 2 = i * 2 + 1 + 1 by omega]
    simpa using this
theorem flatM_none : ∀ n : Nat, flatM (List.replicate n none) = (madeCells #[Value.bool false, .int .u16 0] (n * 2)).toList := by
  intro n
  apply List.ext_getElem?
  intro i
  by_cases hi : i < n * 2
  · have hq : (List.replicate n (none : Option Int))[i / 2]? = some none := by
      rw [List.getElem?_replicate, if_pos (by omega)]
    obtain ⟨h0, h1⟩ := flatM_at _ _ _ hq
    have hr : (madeCells #[Value.bool false, .int .u16 0] (n * 2)).toList[i]? = some (if i % 2 = 0 then Value.bool false else .int .u16 0) := by
      rw [Array.getElem?_toList]
      rcases Nat.mod_two_eq_zero_or_one i with h | h
      · simp [madeCells, hi, h]
      · simp [madeCells, hi, h]
    rw [hr]
    rcases Nat.mod_two_eq_zero_or_one i with h | h
    · rw [show i / 2 * 2 = i by omega] at h0
      rw [h0]
      simp [h]
    · rw [show i / 2 * 2 + 1 = i by omega] at h1
      rw [h1]
      simp [h]
  · rw [List.getElem?_eq_none (by rw [flatM_len]; simp; omega), List.getElem?_eq_none (by simp [madeCells]; omega)]

/-- A fog in memory: its block g, what is known in block h. -/
def FogAt (W : World) (B g h cap : Nat) (X Y : Int) (ms : List (Option Int)) (k : Int) : Prop :=
  B ≤ g ∧ W.heap[g]? = some (.cells #[.int .i64 X, .int .i64 Y, .slice (some ⟨h, 0, none⟩) ms.length cap, .int .i64 k] 66 (0, 0)) ∧
    W.ownsRow B 78 2 (.slice (some ⟨h, 0, none⟩) ms.length cap) ms.length (flatM ms)
section
variable {W : World} {B g h cap : Nat} {X Y : Int} {ms : List (Option Int)} {k : Int}
theorem FogAt.below {W' : World} (m : FogAt W B g h cap X Y ms k) (hb : Below W.heap.size W W') : FogAt W' B g h cap X Y ms k :=
  ⟨m.1, (hb.block g (Array.getElem?_eq_some_iff.1 m.2.1).1).trans m.2.1, own_later m.2.2 hb⟩
theorem FogAt.c0 (m : FogAt W B g h cap X Y ms k) : W.cell? ⟨g, 0, none⟩ = some (.int .i64 X) := by simp [World.cell?, m.2.1]
theorem FogAt.c1 (m : FogAt W B g h cap X Y ms k) : W.cell? ⟨g, 1, none⟩ = some (.int .i64 Y) := by simp [World.cell?, m.2.1]
theorem FogAt.c2 (m : FogAt W B g h cap X Y ms k) : W.cell? ⟨g, 2, none⟩ = some (.slice (some ⟨h, 0, none⟩) ms.length cap) := by simp [World.cell?, m.2.1]
theorem FogAt.c3 (m : FogAt W B g h cap X Y ms k) : W.cell? ⟨g, 3, none⟩ = some (.int .i64 k) := by simp [World.cell?, m.2.1]
theorem FogAt.fz (m : FogAt W B g h cap X Y ms k) (o : Nat) : W.frozen? ⟨g, o, none⟩ = false := by simp [World.frozen?, m.2.1]
theorem FogAt.fh (m : FogAt W B g h cap X Y ms k) (o : Nat) : W.frozen? ⟨h, o, none⟩ = false := m.2.2.frozenAt o
theorem FogAt.lt (m : FogAt W B g h cap X Y ms k) : g < W.heap.size ∧ B ≤ h ∧ h < W.heap.size := ⟨(Array.getElem?_eq_some_iff.1 m.2.1).1, m.2.2.lt h rfl⟩
theorem FogAt.at (m : FogAt W B g h cap X Y ms k) {j : Nat} {o : Option Int} (hj : ms[j]? = some o) : W.cell? ⟨h, j * 2, none⟩ = some (.bool o.isSome) ∧ W.cell? ⟨h, j * 2 + 1, none⟩ = some (.int .u16 (o.getD 0)) := by
  obtain ⟨e0, e1⟩ := flatM_at ms j o hj
  have a0 := m.2.2.cells (g := h) rfl _ _ e0
  have a1 := m.2.2.cells (g := h) rfl _ _ e1
  rw [addr_add, Nat.zero_add] at a0 a1
  exact ⟨a0, a1⟩
theorem FogAt.ne (m : FogAt W B g h cap X Y ms k) : g ≠ h := by
  rintro rfl
  rcases m.2.2.2 with ⟨e, _⟩ | ⟨g', cap', cur, e, _, hg, _⟩
  · cases e
  · cases e
    rw [m.2.1] at hg
    simp at hg
end

set_option maxHeartbeats 800000 in
theorem version_any (B g h cap : Nat) (X Y : Int) (ms : List (Option Int)) (k : Int) (w : World) (m : FogAt w B g h cap X Y ms k) :
    Calls Try.prog 13 #[.pointer (some ⟨g, 0, none⟩)] w fun e w' => e = .returned (.int .i64 k) ∧ w' = w := by
  have c3 := m.c3
  go_enter Try.func13, Try.ntmps13
  go_wp2
  go_ret
  exact ⟨rfl, rfl⟩
set_option maxHeartbeats 800000 in
theorem version_nil (w : World) :
    Calls Try.prog 13 #[.pointer none] w fun e w' => e = .returned (.int .i64 0) ∧ w' = w := by
  go_enter Try.func13, Try.ntmps13
  go_wp2
  go_ret
  exact ⟨rfl, rfl⟩

set_option maxHeartbeats 1600000 in
theorem known_nil (x y : Int) (w : World) :
    Calls Try.prog 14 #[.pointer none, .agg #[.int .i64 x, .int .i64 y]] w fun e w' => e = .returned (.tuple #[.int .u16 0, .bool false]) ∧ Below w.heap.size w w' := by
  go_enter Try.func14, Try.ntmps14
  go_wp2
  go_ret2
  exact ⟨rfl, bl_al (bl0 _) _⟩

set_option maxHeartbeats 1600000 in
theorem known_no (B g h cap : Nat) (X Y x y : Int) (ms : List (Option Int)) (k : Int) (w : World) (m : FogAt w B g h cap X Y ms k) (hi : inB X Y x y = false) :
    Calls Try.prog 14 #[.pointer (some ⟨g, 0, none⟩), .agg #[.int .i64 x, .int .i64 y]] w fun e w' => e = .returned (.tuple #[.int .u16 0, .bool false]) ∧ Below w.heap.size w w' := by
  obtain ⟨w0, hw0⟩ : ∃ w0, w.alloc (.cells #[.int .i64 x, .int .i64 y] 26) = w0 := ⟨_, rfl⟩
  have hb0 : Below w.heap.size w w0 := by rw [← hw0]; exact bl_al (bl0 _) _
  have b0 : w0.cell? ⟨w.heap.size, 0, none⟩ = some (.int .i64 x) := by rw [← hw0]; simp [go_sem]
  have b1 : w0.cell? ⟨w.heap.size, 1, none⟩ = some (.int .i64 y) := by rw [← hw0]; simp [go_sem]
  have c0 := cell_later hb0 m.c0
  have c1 := cell_later hb0 m.c1
  have HW := Lib.hid hw0
  clear hw0
  go_enter Try.func14, Try.ntmps14
  go_wp2
  rw [HW.out]
  have hB := bl_dr (bl0 w0)
  go_region_held3 (fun w2 => w2.cell? ⟨g, 0, none⟩ = some (.int .i64 X) ∧ w2.cell? ⟨g, 1, none⟩ = some (.int .i64 Y) ∧ w2.cell? ⟨w.heap.size, 0, none⟩ = some (.int .i64 x) ∧ w2.cell? ⟨w.heap.size, 1, none⟩ = some (.int .i64 y))
    (exact ⟨cell_later hB c0, cell_later hB c1, cell_later hB b0, cell_later hB b1⟩)
    ((go_at_call 32; refine (index_no _ _ _ _ _ hi).mono ?_; rintro e W2 ⟨rfl, hb⟩; replace hB := bl_tr hB hb; clear hb))
  all_goals
    have HB := Lib.hid (bl_tr hb0 hB)
    clear hB hb0 c0 c1 b0 b1
    go_wp2
    go_ret2
    exact ⟨rfl, HB.out⟩

set_option maxHeartbeats 1600000 in
theorem known_yes (B g h cap : Nat) (X Y x y : Int) (ms : List (Option Int)) (k : Int) (w : World) (m : FogAt w B g h cap X Y ms k) (hi : inB X Y x y = true) (j : Nat) (hj : y * X + x = j) (o : Option Int) (ho : ms[j]? = some o) :
    Calls Try.prog 14 #[.pointer (some ⟨g, 0, none⟩), .agg #[.int .i64 x, .int .i64 y]] w fun e w' => e = .returned (.tuple #[.int .u16 (o.getD 0), .bool o.isSome]) ∧ Below w.heap.size w w' := by
  obtain ⟨w0, hw0⟩ : ∃ w0, w.alloc (.cells #[.int .i64 x, .int .i64 y] 26) = w0 := ⟨_, rfl⟩
  have hb0 : Below w.heap.size w w0 := by rw [← hw0]; exact bl_al (bl0 _) _
  have b0 : w0.cell? ⟨w.heap.size, 0, none⟩ = some (.int .i64 x) := by rw [← hw0]; simp [go_sem]
  have b1 : w0.cell? ⟨w.heap.size, 1, none⟩ = some (.int .i64 y) := by rw [← hw0]; simp [go_sem]
  have hl : j < ms.length := (List.getElem?_eq_some_iff.1 ho).1
  have c0 := cell_later hb0 m.c0
  have c1 := cell_later hb0 m.c1
  have c2 := cell_later hb0 m.c2
  obtain ⟨q0, q1⟩ := m.at ho
  replace q0 := cell_later hb0 q0
  replace q1 := cell_later hb0 q1
  have hl2 : (j : Int) < ms.length := by omega
  have hj0 : (0 : Int) ≤ (j : Int) := by omega
  have HW := Lib.hid hw0
  have HJ := Lib.hid hj
  clear hw0 hj ho
  generalize o.getD 0 = z at *
  generalize o.isSome = s at *
  go_enter Try.func14, Try.ntmps14
  go_wp2
  rw [HW.out]
  have hB := bl_dr (bl0 w0)
  go_region_held3 (fun w2 => w2.cell? ⟨g, 0, none⟩ = some (.int .i64 X) ∧ w2.cell? ⟨g, 1, none⟩ = some (.int .i64 Y) ∧ w2.cell? ⟨w.heap.size, 0, none⟩ = some (.int .i64 x) ∧ w2.cell? ⟨w.heap.size, 1, none⟩ = some (.int .i64 y))
    (exact ⟨cell_later hB c0, cell_later hB c1, cell_later hB b0, cell_later hB b1⟩)
    ((go_at_call 32; refine (index_yes _ _ _ _ _ hi).mono ?_; rintro e W2 ⟨rfl, hb⟩; rw [HJ.out]; replace hB := bl_tr hB hb; clear hb))
  all_goals
    have HB := Lib.hid (bl_tr hb0 hB)
    replace c2 := cell_later hB c2
    replace q0 := cell_later hB q0
    replace q1 := cell_later hB q1
    clear hB hb0 c0 c1 b0 b1
    go_upto_region 6 with fail
    refine (wpIn_wide (n := 11)).1 ?_
    have hD := bl_dr (bl0 W2)
    refine ordS_begin (S := (fun w' : World => w'.cell? ⟨g, 2, none⟩ = some (.slice (some ⟨h, 0, none⟩) ms.length cap) ∧ w'.cell? ⟨h, j * 2, none⟩ = some (.bool s) ∧ w'.cell? ⟨h, j * 2 + 1, none⟩ = some (.int .u16 z))) (by kernel_rfl) ⟨cell_later hD c2, cell_later hD q0, cell_later hD q1⟩ (fun hH => ?_)
    first
      | (refine' ordS_take (i := 0) (oi := { dst := some 21, op := Op.move (Operand.tmp 0), type := 29, pos := _, after := #[], guard := none }) (v := _) rfl (by kernel_rfl) (by kernel_rfl) (by kernel_rfl) (by kernel_rfl) (fun _ _ _ h => h) (by assumption) (Or.inl ⟨by rfl, ?hy1⟩) (fun _ => rfl) ?rest1
         case hy1 => (intro w hSw; (try dsimp only at hSw); go_simp; try with_reducible rfl))
      | (refine ordS_take (i := 0) (oi := { dst := some 21, op := Op.move (Operand.tmp 0), type := 29, pos := _, after := #[], guard := none }) (v := undef) rfl (by kernel_rfl) (by kernel_rfl) (by kernel_rfl) (by kernel_rfl) (fun _ _ _ h => h) (by assumption) (Or.inr ⟨by rfl, rfl⟩) (fun _ => rfl) ?_)
    try simp only [Act.put, List.setIfInBounds_toArray, List.set_cons_zero, List.set_cons_succ]
    first
      | (refine' ordS_take (i := 1) (oi := { dst := some 22, op := Op.nilCheck (Operand.tmp 21), type := 0, pos := _, after := #[{ on := 0, ground := Ground.data }], guard := none }) (v := _) rfl (by kernel_rfl) (by kernel_rfl) (by kernel_rfl) (by kernel_rfl) (fun _ _ _ h => h) (by assumption) (Or.inl ⟨by rfl, ?hy2⟩) (fun _ => rfl) ?rest2
         case hy2 => (intro w hSw; (try dsimp only at hSw); go_simp; try with_reducible rfl))
      | (refine ordS_take (i := 1) (oi := { dst := some 22, op := Op.nilCheck (Operand.tmp 21), type := 0, pos := _, after := #[{ on := 0, ground := Ground.data }], guard := none }) (v := undef) rfl (by kernel_rfl) (by kernel_rfl) (by kernel_rfl) (by kernel_rfl) (fun _ _ _ h => h) (by assumption) (Or.inr ⟨by rfl, rfl⟩) (fun _ => rfl) ?_)
    try simp only [Act.put, List.setIfInBounds_toArray, List.set_cons_zero, List.set_cons_succ]
    first
      | (refine' ordS_take (i := 2) (oi := { dst := some 23, op := Op.fieldAddr 66 (Operand.tmp 22) 1, type := 0, pos := _, after := #[{ on := 1, ground := Ground.data }], guard := none }) (v := _) rfl (by kernel_rfl) (by kernel_rfl) (by kernel_rfl) (by kernel_rfl) (fun _ _ _ h => h) (by assumption) (Or.inl ⟨by rfl, ?hy3⟩) (fun _ => rfl) ?rest3
         case hy3 => (intro w hSw; (try dsimp only at hSw); go_simp; try with_reducible rfl))
      | (refine ordS_take (i := 2) (oi := { dst := some 23, op := Op.fieldAddr 66 (Operand.tmp 22) 1, type := 0, pos := _, after := #[{ on := 1, ground := Ground.data }], guard := none }) (v := undef) rfl (by kernel_rfl) (by kernel_rfl) (by kernel_rfl) (by kernel_rfl) (fun _ _ _ h => h) (by assumption) (Or.inr ⟨by rfl, rfl⟩) (fun _ => rfl) ?_)
    try simp only [Act.put, List.setIfInBounds_toArray, List.set_cons_zero, List.set_cons_succ]
    first
      | (refine' ordS_take (i := 3) (oi := { dst := some 24, op := Op.load 64 (Operand.tmp 23), type := 64, pos := _, after := #[{ on := 2, ground := Ground.data }], guard := none }) (v := _) rfl (by kernel_rfl) (by kernel_rfl) (by kernel_rfl) (by kernel_rfl) (fun _ _ _ h => h) (by assumption) (Or.inl ⟨by rfl, ?hy4⟩) (fun _ => rfl) ?rest4
         case hy4 => (intro w hSw; (try dsimp only at hSw); go_simp; try with_reducible rfl))
      | (refine ordS_take (i := 3) (oi := { dst := some 24, op := Op.load 64 (Operand.tmp 23), type := 64, pos := _, after := #[{ on := 2, ground := Ground.data }], guard := none }) (v := undef) rfl (by kernel_rfl) (by kernel_rfl) (by kernel_rfl) (by kernel_rfl) (fun _ _ _ h => h) (by assumption) (Or.inr ⟨by rfl, rfl⟩) (fun _ => rfl) ?_)
    try simp only [Act.put, List.setIfInBounds_toArray, List.set_cons_zero, List.set_cons_succ]
    first
      | (refine' ordS_take (i := 4) (oi := { dst := some 25, op := Op.move (Operand.tmp 6), type := 3, pos := _, after := #[], guard := none }) (v := _) rfl (by kernel_rfl) (by kernel_rfl) (by kernel_rfl) (by kernel_rfl) (fun _ _ _ h => h) (by assumption) (Or.inl ⟨by rfl, ?hy5⟩) (fun _ => rfl) ?rest5
         case hy5 => (intro w hSw; (try dsimp only at hSw); go_simp; try with_reducible rfl))
      | (refine ordS_take (i := 4) (oi := { dst := some 25, op := Op.move (Operand.tmp 6), type := 3, pos := _, after := #[], guard := none }) (v := undef) rfl (by kernel_rfl) (by kernel_rfl) (by kernel_rfl) (by kernel_rfl) (fun _ _ _ h => h) (by assumption) (Or.inr ⟨by rfl, rfl⟩) (fun _ => rfl) ?_)
    try simp only [Act.put, List.setIfInBounds_toArray, List.set_cons_zero, List.set_cons_succ]
    first
      | (refine' ordS_take (i := 5) (oi := { dst := some 26, op := Op.indexAddr 64 (Operand.tmp 24) (Operand.tmp 25), type := 0, pos := _, after := #[{ on := 3, ground := Ground.data }, { on := 4, ground := Ground.data }], guard := none }) (v := _) rfl (by kernel_rfl) (by kernel_rfl) (by kernel_rfl) (by kernel_rfl) (fun _ _ _ h => h) (by assumption) (Or.inl ⟨by rfl, ?hy6⟩) (fun _ => rfl) ?rest6
         case hy6 => (intro w hSw; (try dsimp only at hSw); go_simp; try with_reducible rfl))
      | (refine ordS_take (i := 5) (oi := { dst := some 26, op := Op.indexAddr 64 (Operand.tmp 24) (Operand.tmp 25), type := 0, pos := _, after := #[{ on := 3, ground := Ground.data }, { on := 4, ground := Ground.data }], guard := none }) (v := undef) rfl (by kernel_rfl) (by kernel_rfl) (by kernel_rfl) (by kernel_rfl) (fun _ _ _ h => h) (by assumption) (Or.inr ⟨by rfl, rfl⟩) (fun _ => rfl) ?_)
    try simp only [Act.put, List.setIfInBounds_toArray, List.set_cons_zero, List.set_cons_succ]
    first
      | (refine' ordS_take (i := 6) (oi := { dst := some 27, op := Op.fieldAddr 78 (Operand.tmp 26) 1, type := 0, pos := _, after := #[{ on := 5, ground := Ground.data }], guard := none }) (v := _) rfl (by kernel_rfl) (by kernel_rfl) (by kernel_rfl) (by kernel_rfl) (fun _ _ _ h => h) (by assumption) (Or.inl ⟨by rfl, ?hy7⟩) (fun _ => rfl) ?rest7
         case hy7 => (intro w hSw; (try dsimp only at hSw); go_simp; try with_reducible rfl))
      | (refine ordS_take (i := 6) (oi := { dst := some 27, op := Op.fieldAddr 78 (Operand.tmp 26) 1, type := 0, pos := _, after := #[{ on := 5, ground := Ground.data }], guard := none }) (v := undef) rfl (by kernel_rfl) (by kernel_rfl) (by kernel_rfl) (by kernel_rfl) (fun _ _ _ h => h) (by assumption) (Or.inr ⟨by rfl, rfl⟩) (fun _ => rfl) ?_)
    try simp only [Act.put, List.setIfInBounds_toArray, List.set_cons_zero, List.set_cons_succ]
    first
      | (refine' ordS_take (i := 7) (oi := { dst := some 28, op := Op.load 53 (Operand.tmp 27), type := 53, pos := _, after := #[{ on := 6, ground := Ground.data }], guard := none }) (v := _) rfl (by kernel_rfl) (by kernel_rfl) (by kernel_rfl) (by kernel_rfl) (fun _ _ _ h => h) (by assumption) (Or.inl ⟨by rfl, ?hy8⟩) (fun _ => rfl) ?rest8
         case hy8 => (intro w hSw; (try dsimp only at hSw); go_simp; try with_reducible rfl))
      | (refine ordS_take (i := 7) (oi := { dst := some 28, op := Op.load 53 (Operand.tmp 27), type := 53, pos := _, after := #[{ on := 6, ground := Ground.data }], guard := none }) (v := undef) rfl (by kernel_rfl) (by kernel_rfl) (by kernel_rfl) (by kernel_rfl) (fun _ _ _ h => h) (by assumption) (Or.inr ⟨by rfl, rfl⟩) (fun _ => rfl) ?_)
    try simp only [Act.put, List.setIfInBounds_toArray, List.set_cons_zero, List.set_cons_succ]
    first
      | (refine' ordS_take (i := 8) (oi := { dst := some 29, op := Op.move (Operand.tmp 0), type := 29, pos := _, after := #[{ on := 16, ground := Ground.gcOnly Departure.lateStores }], guard := none }) (v := _) rfl (by kernel_rfl) (by kernel_rfl) (by kernel_rfl) (by kernel_rfl) (fun _ _ _ h => h) (by assumption) (Or.inl ⟨by rfl, ?hy9⟩) (fun _ => rfl) ?rest9
         case hy9 => (intro w hSw; (try dsimp only at hSw); go_simp; try with_reducible rfl))
      | (refine ordS_take (i := 8) (oi := { dst := some 29, op := Op.move (Operand.tmp 0), type := 29, pos := _, after := #[{ on := 16, ground := Ground.gcOnly Departure.lateStores }], guard := none }) (v := undef) rfl (by kernel_rfl) (by kernel_rfl) (by kernel_rfl) (by kernel_rfl) (fun _ _ _ h => h) (by assumption) (Or.inr ⟨by rfl, rfl⟩) (fun _ => rfl) ?_)
    try simp only [Act.put, List.setIfInBounds_toArray, List.set_cons_zero, List.set_cons_succ]
    first
      | (refine' ordS_take (i := 9) (oi := { dst := some 30, op := Op.nilCheck (Operand.tmp 29), type := 0, pos := _, after := #[{ on := 8, ground := Ground.data }, { on := 16, ground := Ground.gcOnly Departure.lateStores }], guard := none }) (v := _) rfl (by kernel_rfl) (by kernel_rfl) (by kernel_rfl) (by kernel_rfl) (fun _ _ _ h => h) (by assumption) (Or.inl ⟨by rfl, ?hy10⟩) (fun _ => rfl) ?rest10
         case hy10 => (intro w hSw; (try dsimp only at hSw); go_simp; try with_reducible rfl))
      | (refine ordS_take (i := 9) (oi := { dst := some 30, op := Op.nilCheck (Operand.tmp 29), type := 0, pos := _, after := #[{ on := 8, ground := Ground.data }, { on := 16, ground := Ground.gcOnly Departure.lateStores }], guard := none }) (v := undef) rfl (by kernel_rfl) (by kernel_rfl) (by kernel_rfl) (by kernel_rfl) (fun _ _ _ h => h) (by assumption) (Or.inr ⟨by rfl, rfl⟩) (fun _ => rfl) ?_)
    try simp only [Act.put, List.setIfInBounds_toArray, List.set_cons_zero, List.set_cons_succ]
    first
      | (refine' ordS_take (i := 10) (oi := { dst := some 31, op := Op.fieldAddr 66 (Operand.tmp 30) 1, type := 0, pos := _, after := #[{ on := 9, ground := Ground.data }, { on := 16, ground := Ground.gcOnly Departure.lateStores }], guard := none }) (v := _) rfl (by kernel_rfl) (by kernel_rfl) (by kernel_rfl) (by kernel_rfl) (fun _ _ _ h => h) (by assumption) (Or.inl ⟨by rfl, ?hy11⟩) (fun _ => rfl) ?rest11
         case hy11 => (intro w hSw; (try dsimp only at hSw); go_simp; try with_reducible rfl))
      | (refine ordS_take (i := 10) (oi := { dst := some 31, op := Op.fieldAddr 66 (Operand.tmp 30) 1, type := 0, pos := _, after := #[{ on := 9, ground := Ground.data }, { on := 16, ground := Ground.gcOnly Departure.lateStores }], guard := none }) (v := undef) rfl (by kernel_rfl) (by kernel_rfl) (by kernel_rfl) (by kernel_rfl) (fun _ _ _ h => h) (by assumption) (Or.inr ⟨by rfl, rfl⟩) (fun _ => rfl) ?_)
    try simp only [Act.put, List.setIfInBounds_toArray, List.set_cons_zero, List.set_cons_succ]
    first
      | (refine' ordS_take (i := 11) (oi := { dst := some 32, op := Op.load 64 (Operand.tmp 31), type := 64, pos := _, after := #[{ on := 10, ground := Ground.data }, { on := 16, ground := Ground.gcOnly Departure.lateStores }], guard := none }) (v := _) rfl (by kernel_rfl) (by kernel_rfl) (by kernel_rfl) (by kernel_rfl) (fun _ _ _ h => h) (by assumption) (Or.inl ⟨by rfl, ?hy12⟩) (fun _ => rfl) ?rest12
         case hy12 => (intro w hSw; (try dsimp only at hSw); go_simp; try with_reducible rfl))
      | (refine ordS_take (i := 11) (oi := { dst := some 32, op := Op.load 64 (Operand.tmp 31), type := 64, pos := _, after := #[{ on := 10, ground := Ground.data }, { on := 16, ground := Ground.gcOnly Departure.lateStores }], guard := none }) (v := undef) rfl (by kernel_rfl) (by kernel_rfl) (by kernel_rfl) (by kernel_rfl) (fun _ _ _ h => h) (by assumption) (Or.inr ⟨by rfl, rfl⟩) (fun _ => rfl) ?_)
    try simp only [Act.put, List.setIfInBounds_toArray, List.set_cons_zero, List.set_cons_succ]
    first
      | (refine' ordS_take (i := 12) (oi := { dst := some 33, op := Op.move (Operand.tmp 6), type := 3, pos := _, after := #[{ on := 16, ground := Ground.gcOnly Departure.lateStores }], guard := none }) (v := _) rfl (by kernel_rfl) (by kernel_rfl) (by kernel_rfl) (by kernel_rfl) (fun _ _ _ h => h) (by assumption) (Or.inl ⟨by rfl, ?hy13⟩) (fun _ => rfl) ?rest13
         case hy13 => (intro w hSw; (try dsimp only at hSw); go_simp; try with_reducible rfl))
      | (refine ordS_take (i := 12) (oi := { dst := some 33, op := Op.move (Operand.tmp 6), type := 3, pos := _, after := #[{ on := 16, ground := Ground.gcOnly Departure.lateStores }], guard := none }) (v := undef) rfl (by kernel_rfl) (by kernel_rfl) (by kernel_rfl) (by kernel_rfl) (fun _ _ _ h => h) (by assumption) (Or.inr ⟨by rfl, rfl⟩) (fun _ => rfl) ?_)
    try simp only [Act.put, List.setIfInBounds_toArray, List.set_cons_zero, List.set_cons_succ]
    first
      | (refine' ordS_take (i := 13) (oi := { dst := some 34, op := Op.indexAddr 64 (Operand.tmp 32) (Operand.tmp 33), type := 0, pos := _, after := #[{ on := 11, ground := Ground.data }, { on := 12, ground := Ground.data }, { on := 16, ground := Ground.gcOnly Departure.lateStores }], guard := none }) (v := _) rfl (by kernel_rfl) (by kernel_rfl) (by kernel_rfl) (by kernel_rfl) (fun _ _ _ h => h) (by assumption) (Or.inl ⟨by rfl, ?hy14⟩) (fun _ => rfl) ?rest14
         case hy14 => (intro w hSw; (try dsimp only at hSw); go_simp; try with_reducible rfl))
      | (refine ordS_take (i := 13) (oi := { dst := some 34, op := Op.indexAddr 64 (Operand.tmp 32) (Operand.tmp 33), type := 0, pos := _, after := #[{ on := 11, ground := Ground.data }, { on := 12, ground := Ground.data }, { on := 16, ground := Ground.gcOnly Departure.lateStores }], guard := none }) (v := undef) rfl (by kernel_rfl) (by kernel_rfl) (by kernel_rfl) (by kernel_rfl) (fun _ _ _ h => h) (by assumption) (Or.inr ⟨by rfl, rfl⟩) (fun _ => rfl) ?_)
    try simp only [Act.put, List.setIfInBounds_toArray, List.set_cons_zero, List.set_cons_succ]
    first
      | (refine' ordS_take (i := 14) (oi := { dst := some 35, op := Op.fieldAddr 78 (Operand.tmp 34) 0, type := 0, pos := _, after := #[{ on := 13, ground := Ground.data }, { on := 16, ground := Ground.gcOnly Departure.lateStores }], guard := none }) (v := _) rfl (by kernel_rfl) (by kernel_rfl) (by kernel_rfl) (by kernel_rfl) (fun _ _ _ h => h) (by assumption) (Or.inl ⟨by rfl, ?hy15⟩) (fun _ => rfl) ?rest15
         case hy15 => (intro w hSw; (try dsimp only at hSw); go_simp; try with_reducible rfl))
      | (refine ordS_take (i := 14) (oi := { dst := some 35, op := Op.fieldAddr 78 (Operand.tmp 34) 0, type := 0, pos := _, after := #[{ on := 13, ground := Ground.data }, { on := 16, ground := Ground.gcOnly Departure.lateStores }], guard := none }) (v := undef) rfl (by kernel_rfl) (by kernel_rfl) (by kernel_rfl) (by kernel_rfl) (fun _ _ _ h => h) (by assumption) (Or.inr ⟨by rfl, rfl⟩) (fun _ => rfl) ?_)
    try simp only [Act.put, List.setIfInBounds_toArray, List.set_cons_zero, List.set_cons_succ]
    first
      | (refine' ordS_take (i := 15) (oi := { dst := some 36, op := Op.load 4 (Operand.tmp 35), type := 4, pos := _, after := #[{ on := 14, ground := Ground.data }, { on := 16, ground := Ground.gcOnly Departure.lateStores }], guard := none }) (v := _) rfl (by kernel_rfl) (by kernel_rfl) (by kernel_rfl) (by kernel_rfl) (fun _ _ _ h => h) (by assumption) (Or.inl ⟨by rfl, ?hy16⟩) (fun _ => rfl) ?rest16
         case hy16 => (intro w hSw; (try dsimp only at hSw); go_simp; try with_reducible rfl))
      | (refine ordS_take (i := 15) (oi := { dst := some 36, op := Op.load 4 (Operand.tmp 35), type := 4, pos := _, after := #[{ on := 14, ground := Ground.data }, { on := 16, ground := Ground.gcOnly Departure.lateStores }], guard := none }) (v := undef) rfl (by kernel_rfl) (by kernel_rfl) (by kernel_rfl) (by kernel_rfl) (fun _ _ _ h => h) (by assumption) (Or.inr ⟨by rfl, rfl⟩) (fun _ => rfl) ?_)
    try simp only [Act.put, List.setIfInBounds_toArray, List.set_cons_zero, List.set_cons_succ]
    first
      | (refine' ordS_take (i := 16) (oi := { dst := some 4, op := Op.assign (Operand.tmp 28), type := 53, pos := _, after := #[{ on := 7, ground := Ground.data }, { on := 0, ground := Ground.phase }, { on := 1, ground := Ground.phase }, { on := 2, ground := Ground.phase }, { on := 3, ground := Ground.phase }, { on := 4, ground := Ground.phase }, { on := 5, ground := Ground.phase }, { on := 6, ground := Ground.phase }, { on := 7, ground := Ground.phase }, { on := 8, ground := Ground.textOnly Departure.lateStores }, { on := 9, ground := Ground.textOnly Departure.lateStores }, { on := 10, ground := Ground.textOnly Departure.lateStores }, { on := 11, ground := Ground.textOnly Departure.lateStores }, { on := 12, ground := Ground.textOnly Departure.lateStores }, { on := 13, ground := Ground.textOnly Departure.lateStores }, { on := 14, ground := Ground.textOnly Departure.lateStores }, { on := 15, ground := Ground.textOnly Departure.lateStores }], guard := none }) (v := _) rfl (by kernel_rfl) (by kernel_rfl) (by kernel_rfl) (by kernel_rfl) (fun _ _ _ h => h) (by assumption) (Or.inl ⟨by rfl, ?hy17⟩) (fun _ => rfl) ?rest17
         case hy17 => (intro w hSw; (try dsimp only at hSw); go_simp; try with_reducible rfl))
      | (refine ordS_take (i := 16) (oi := { dst := some 4, op := Op.assign (Operand.tmp 28), type := 53, pos := _, after := #[{ on := 7, ground := Ground.data }, { on := 0, ground := Ground.phase }, { on := 1, ground := Ground.phase }, { on := 2, ground := Ground.phase }, { on := 3, ground := Ground.phase }, { on := 4, ground := Ground.phase }, { on := 5, ground := Ground.phase }, { on := 6, ground := Ground.phase }, { on := 7, ground := Ground.phase }, { on := 8, ground := Ground.textOnly Departure.lateStores }, { on := 9, ground := Ground.textOnly Departure.lateStores }, { on := 10, ground := Ground.textOnly Departure.lateStores }, { on := 11, ground := Ground.textOnly Departure.lateStores }, { on := 12, ground := Ground.textOnly Departure.lateStores }, { on := 13, ground := Ground.textOnly Departure.lateStores }, { on := 14, ground := Ground.textOnly Departure.lateStores }, { on := 15, ground := Ground.textOnly Departure.lateStores }], guard := none }) (v := undef) rfl (by kernel_rfl) (by kernel_rfl) (by kernel_rfl) (by kernel_rfl) (fun _ _ _ h => h) (by assumption) (Or.inr ⟨by rfl, rfl⟩) (fun _ => rfl) ?_)
    try simp only [Act.put, List.setIfInBounds_toArray, List.set_cons_zero, List.set_cons_succ]
    first
      | (refine' ordS_take (i := 17) (oi := { dst := some 5, op := Op.assign (Operand.tmp 36), type := 4, pos := _, after := #[{ on := 15, ground := Ground.data }, { on := 16, ground := Ground.chain }, { on := 0, ground := Ground.phase }, { on := 1, ground := Ground.phase }, { on := 2, ground := Ground.phase }, { on := 3, ground := Ground.phase }, { on := 4, ground := Ground.phase }, { on := 5, ground := Ground.phase }, { on := 6, ground := Ground.phase }, { on := 7, ground := Ground.phase }, { on := 8, ground := Ground.phase }, { on := 9, ground := Ground.phase }, { on := 10, ground := Ground.phase }, { on := 11, ground := Ground.phase }, { on := 12, ground := Ground.phase }, { on := 13, ground := Ground.phase }, { on := 14, ground := Ground.phase }, { on := 15, ground := Ground.phase }, { on := 16, ground := Ground.phase }], guard := none }) (v := _) rfl (by kernel_rfl) (by kernel_rfl) (by kernel_rfl) (by kernel_rfl) (fun _ _ _ h => h) (by assumption) (Or.inl ⟨by rfl, ?hy18⟩) (fun _ => rfl) ?rest18
         case hy18 => (intro w hSw; (try dsimp only at hSw); go_simp; try with_reducible rfl))
      | (refine ordS_take (i := 17) (oi := { dst := some 5, op := Op.assign (Operand.tmp 36), type := 4, pos := _, after := #[{ on := 15, ground := Ground.data }, { on := 16, ground := Ground.chain }, { on := 0, ground := Ground.phase }, { on := 1, ground := Ground.phase }, { on := 2, ground := Ground.phase }, { on := 3, ground := Ground.phase }, { on := 4, ground := Ground.phase }, { on := 5, ground := Ground.phase }, { on := 6, ground := Ground.phase }, { on := 7, ground := Ground.phase }, { on := 8, ground := Ground.phase }, { on := 9, ground := Ground.phase }, { on := 10, ground := Ground.phase }, { on := 11, ground := Ground.phase }, { on := 12, ground := Ground.phase }, { on := 13, ground := Ground.phase }, { on := 14, ground := Ground.phase }, { on := 15, ground := Ground.phase }, { on := 16, ground := Ground.phase }], guard := none }) (v := undef) rfl (by kernel_rfl) (by kernel_rfl) (by kernel_rfl) (by kernel_rfl) (fun _ _ _ h => h) (by assumption) (Or.inr ⟨by rfl, rfl⟩) (fun _ => rfl) ?_)
    try simp only [Act.put, List.setIfInBounds_toArray, List.set_cons_zero, List.set_cons_succ]
    refine ordS_done (by kernel_rfl) ?_
    replace HB := Lib.hid (bl_tr HB.out hD)
    go_wp2
    go_ret2
    exact ⟨rfl, HB.out⟩
end Go.Proofs.Ytccokdfkmppohaa

/- Fog: rows of what is known: slices.Equal and slices.Clone of them. -/
namespace Go.Proofs.Ytccokdfkmppohaa
open Go.RowKit

/-- A row of what is known of cells. -/
def RowM (W : World) (a : Option Addr) (ms : List (Option Int)) : Prop :=
  ms = [] ∨ ∃ b o, a = some ⟨b, o, none⟩ ∧ ∀ i m, ms[i]? = some m → W.cell? ⟨b, o + i * 2, none⟩ = some (.bool m.isSome) ∧ W.cell? ⟨b, o + i * 2 + 1, none⟩ = some (.int .u16 (m.getD 0))
theorem RowM.below {W W' : World} {a : Option Addr} {ms : List (Option Int)} (h : RowM W a ms) (hb : Below W.heap.size W W') : RowM W' a ms := by
  rcases h with h | ⟨b, o, h1, h2⟩
  · exact .inl h
  · exact .inr ⟨b, o, h1, fun i z hz => ⟨cell_later hb (h2 i z hz).1, cell_later hb (h2 i z hz).2⟩⟩
theorem RowM.cell {W : World} {a : Option Addr} {ms : List (Option Int)} (h : RowM W a ms) {k : Nat} (hk : k < ms.length) : ∃ b o, a = some ⟨b, o, none⟩ ∧ W.cell? ⟨b, o + k * 2, none⟩ = some (.bool ms[k].isSome) ∧ W.cell? ⟨b, o + k * 2 + 1, none⟩ = some (.int .u16 (ms[k].getD 0)) := by
  rcases h with rfl | ⟨b, o, h1, h2⟩
  · simp at hk
  · exact ⟨b, o, h1, (h2 k _ (List.getElem?_eq_getElem hk)).1, (h2 k _ (List.getElem?_eq_getElem hk)).2⟩
theorem FogAt.row {W : World} {B g h cap : Nat} {X Y : Int} {ms : List (Option Int)} {k : Int} (m : FogAt W B g h cap X Y ms k) : RowM W (some ⟨h, 0, none⟩) ms := by
  refine .inr ⟨h, 0, rfl, fun i o ho => ?_⟩
  rw [Nat.zero_add]
  exact m.at ho
theorem opt_eq {a b : Option Int} (h1 : a.isSome = b.isSome) (h2 : a.getD 0 = b.getD 0) : a = b := by
  cases a <;> cases b <;> simp_all
theorem take_sameM {xs ys : List (Option Int)} {k : Nat} (hk : k < xs.length) (hk2 : k < ys.length) (h : xs.take k = ys.take k) (e : xs[k] = ys[k]) : xs.take (k + 1) = ys.take (k + 1) := by
  rw [List.take_succ_eq_append_getElem hk, List.take_succ_eq_append_getElem hk2, h, e]
theorem take_allM {xs ys : List (Option Int)} {k : Nat} (h1 : xs.length ≤ k) (h2 : xs.length = ys.length) (h : xs.take k = ys.take k) : xs = ys := by
  rw [List.take_of_length_le h1, List.take_of_length_le (by omega)] at h
  exact h


theorem Try.infoM : (Try.prog.info? 78).map (fun i => (i.zero, i.size, i.bytes)) = some (some (.agg #[.bool false, .int .u16 0]), 2, 4) := by kernel_rfl
theorem flatM_one (ms : List (Option Int)) : ∀ u ∈ flatM ms, u.oneCell' = true := by
  intro u hu
  simp only [flatM, List.mem_flatMap] at hu
  obtain ⟨o, _, h⟩ := hu
  simp at h
  rcases h with rfl | rfl <;> rfl
theorem mown_empty {w : World} {B : Nat} (t : TypeId) (hB : B ≤ w.heap.size) : (w.alloc (.cells #[] t)).ownsRow B t 2 (.slice (some ⟨w.heap.size, 0, none⟩) 0 0) 0 [] :=
  ⟨rfl, .inr ⟨w.heap.size, 0, #[], rfl, hB, heap_alloc_new w _, Nat.le_refl _, Nat.zero_le _, rfl, rfl⟩⟩
set_option maxRecDepth 100000 in
set_option maxHeartbeats 1600000 in
theorem eql_nilM (b o n c : Nat) (w : World) : (binOp .eql 64 (.slice (some ⟨b, o, none⟩) n c) (.slice none 0 0)).run Try.prog w = .ok (.bool false) w := by
  kernel_rfl

end Go.Proofs.Ytccokdfkmppohaa

/- Fog: New, Clone, Same. -/
namespace Go.Proofs.Ytccokdfkmppohaa
open Go.RowKit

theorem own_baseM {w : World} {B B' : Nat} {e : TypeId} {size : Nat} {v : Value} {n : Nat} {xs : List Value} (h : w.ownsRow B e size v n xs) (hb : B' ≤ B) : w.ownsRow B' e size v n xs := by
  refine ⟨h.1, ?_⟩
  rcases h.2 with h | ⟨g, cap, cur, h1, h2, h3, h4⟩
  · exact .inl h
  · exact .inr ⟨g, cap, cur, h1, Nat.le_trans hb h2, h3, h4⟩
set_option maxRecDepth 100000 in
set_option maxHeartbeats 1600000 in
theorem eql_nilP (g : Nat) (w : World) : (binOp .eql 29 (.pointer none) (.pointer (some ⟨g, 0, none⟩))).run Try.prog w = .ok (.bool false) w := by
  kernel_rfl

theorem make_mem (n : Nat) (hn : n ≤ 1048576) (w : World) : (Instr.makeSlice 64 (.int .i64 (n : Int)) (.int .i64 (n : Int))).run Try.prog w = .ok (.slice (some ⟨w.heap.size, 0, none⟩) n n) (w.alloc (.cells (madeCells #[Value.bool false, .int .u16 0] (n * 2)) 78)) := by
  obtain ⟨i0, hi, hz0, hz1, hz2⟩ := info_parts Try.infoM
  have hr := run_make (P := Try.prog) w 64 78 i0 (.agg #[.bool false, .int .u16 0]) Try.underlying64 hi hz0 .i64 .i64 n n (by omega) (Int.le_refl _) (by rw [hz2]; omega) (by omega)
  simp only [Int.toNat_natCast, hz1] at hr
  exact hr

theorem fog_made (W : World) (B n : Nat) (X Y : Int) (hn : n ≤ 1048576) (hB : B ≤ W.heap.size) : FogAt ((W.alloc (.cells (madeCells #[Value.bool false, .int .u16 0] (n * 2)) 78)).alloc (.cells #[.int .i64 X, .int .i64 Y, .slice (some ⟨W.heap.size, 0, none⟩) n n, .int .i64 0] 66)) B (W.heap.size + 1) W.heap.size n X Y (List.replicate n none) 0 := by
  have ho := World.ownsRow_lit (base := B) (e := 78) (size := 2) W (madeCells #[Value.bool false, .int .u16 0] (n * 2)) n hB (by unfold maxLen; omega) (size_madeCells _ _)
  have ho2 := ho.alloc (.cells #[.int .i64 X, .int .i64 Y, .slice (some ⟨W.heap.size, 0, none⟩) n n, .int .i64 0] 66)
  rw [← flatM_none] at ho2
  refine ⟨by omega, ?_, ?_⟩
  · rw [List.length_replicate]
    have h := heap_alloc_new (W.alloc (.cells (madeCells #[Value.bool false, .int .u16 0] (n * 2)) 78)) (.cells #[.int .i64 X, .int .i64 Y, .slice (some ⟨W.heap.size, 0, none⟩) n n, .int .i64 0] 66)
    rw [World.size_alloc] at h
    exact h
  · rw [List.length_replicate]
    exact ho2

set_option maxHeartbeats 1600000 in
theorem fnew_no (X Y : Int) (w : World) (hm : mayB X Y = false) :
    Calls Try.prog 6 #[.agg #[.int .i64 X, .int .i64 Y]] w fun e w' => e = .returned (.tuple #[.pointer none, .int .i64 10]) ∧ Below w.heap.size w w' := by
  go_enter Try.func6, Try.ntmps6
  go_wp2_with (go_at_call 25; refine (may_any _ _ _).mono ?_; rintro e w' ⟨rfl, hb⟩; obtain ⟨hc, hf⟩ := bcell hb)
  have hbw := Lib.hid (bl_tr (bl_al (bl0 w) _) hb)
  clear hb hc hf
  go_ret2
  exact ⟨rfl, hbw.out⟩

set_option maxRecDepth 100000 in
set_option maxHeartbeats 1600000 in
theorem fnew_yes (X Y : Int) (w : World) (hm : mayB X Y = true) (n : Nat) (hn : (n : Int) = X * Y) :
    Calls Try.prog 6 #[.agg #[.int .i64 X, .int .i64 Y]] w fun e w' => ∃ g h, e = .returned (.tuple #[.pointer (some ⟨g, 0, none⟩), .int .i64 0]) ∧ FogAt w' w.heap.size g h n X Y (List.replicate n none) 0 ∧ Below w.heap.size w w' := by
  obtain ⟨m1, m2⟩ := area_bd hm
  have hn1 : n ≤ 65536 := by omega
  have hmk := fun w => make_mem n (by omega) w
  have HN := Lib.hid hn
  rw [hn] at hmk
  have hww : IntKind.i64.wrap (X * Y) = X * Y := IntWalk.i64_in _ (by omega)
  go_enter Try.func6, Try.ntmps6
  clear hn
  go_wp2_with (go_at_call 25; refine (may_any _ _ _).mono ?_; rintro e w' ⟨rfl, hb⟩; obtain ⟨hc, hf⟩ := bcell hb)
  have c0 : w'.cell? ⟨w.heap.size, 0, none⟩ = some (.int .i64 X) := (hc _ _ (by simp)).trans (by simp [go_sem])
  have c1 : w'.cell? ⟨w.heap.size, 1, none⟩ = some (.int .i64 Y) := (hc _ _ (by simp)).trans (by simp [go_sem])
  have hbw := Lib.hid (bl_tr (bl_al (bl0 w) _) hb)
  clear hb hc hf
  have hA := bl_dr (bl0 w')
  go_region_held3 (fun w2 => w2.cell? ⟨w.heap.size, 0, none⟩ = some (.int .i64 X) ∧ w2.cell? ⟨w.heap.size, 1, none⟩ = some (.int .i64 Y))
    (first | exact ⟨cell_later hA c0, cell_later hA c1⟩ | exact ⟨cell_later (bl_al hA _) c0, cell_later (bl_al hA _) c1⟩ | exact ⟨cell_later (bl_al (bl_al hA _) _) c0, cell_later (bl_al (bl_al hA _) _) c1⟩)
    (fail)
  all_goals
    have HB := Lib.hid (bl_tr hbw.out hA)
    clear hA
    go_wp2
    go_ret2
    have hs := HB.out.size
    refine ⟨w'.heap.size + 1, w'.heap.size, rfl, fog_made w' _ n X Y (by omega) hs, ?_⟩
    exact bl_tr (bl_al (bl_al hbw.out _) _) (bl_dr (bl0 _))




end Go.Proofs.Ytccokdfkmppohaa

/- Package geom: contracts of distances. -/
namespace Go.Proofs.Ytccokdfkmppohaa
open Go.RowKit

theorem ret_ii {k k' : IntKind} {a b c d : Int} (h : a = b) (h2 : c = d) : Ending.returned (.tuple #[.int k a, .int k' c]) = .returned (.tuple #[.int k b, .int k' d]) := by rw [h, h2]
def apartI (a b : Int) : Int := max (a - b) (b - a)
theorem apartI_def (a b : Int) : apartI a b = max (a - b) (b - a) := rfl
theorem apartI_bd {a b : Int} (h1 : -1048576 ≤ a) (h2 : a ≤ 1048576) (h3 : -1048576 ≤ b) (h4 : b ≤ 1048576) : 0 ≤ apartI a b ∧ apartI a b ≤ 2097152 := by unfold apartI; omega



end Go.Proofs.Ytccokdfkmppohaa

/- Straight lines: which whole number is nearest to a quotient. -/
namespace Go.Proofs.Ytccokdfkmppohaa
open Go.RowKit

/-- The greatest whole number that is not above v divided by n, and a half; of n 0: 0. -/
def pF (v n : Int) : Int := if n = 0 then 0 else (2 * v + n) / (2 * n)
theorem pF_nil (v : Int) : pF v 0 = 0 := by simp [pF]
theorem tmod_gt (t d : Int) (hd : 0 < d) : -d < t.tmod d := by
  rcases Int.le_total 0 t with h | h
  · have := Int.tmod_nonneg d h
    omega
  · have h1 : (-t).tmod d < d := Int.tmod_lt_of_pos _ hd
    rw [Int.neg_tmod] at h1
    omega
theorem div_low {t d : Int} (hd : 0 < d) (h : t.tmod d < 0) : t / d = t.tdiv d - 1 := by
  have h1 := Int.mul_tdiv_add_tmod t d
  have h2 := tmod_gt t d hd
  refine ((Int.ediv_emod_unique (r := t.tmod d + d) hd).2 ⟨?_, by omega, by omega⟩).1
  rw [Int.mul_sub, Int.mul_one]
  omega
theorem div_up {t d : Int} (hd : 0 < d) (h : 0 ≤ t.tmod d) : t / d = t.tdiv d := by
  have h1 := Int.mul_tdiv_add_tmod t d
  have h2 := Int.tmod_lt_of_pos t hd
  refine ((Int.ediv_emod_unique (r := t.tmod d) hd).2 ⟨?_, by omega, by omega⟩).1
  omega
theorem tdiv_bd {t : Int} (d : Int) (ht : -4194304 ≤ t ∧ t ≤ 4194304) : -4194304 ≤ t.tdiv d ∧ t.tdiv d ≤ 4194304 := by
  have hn : (t.tdiv d).natAbs ≤ t.natAbs := by rw [Int.natAbs_tdiv]; exact Nat.div_le_self _ _
  omega
theorem mul_back (t d : Int) : (t < d * t.tdiv d → t.tmod d < 0) ∧ (¬ t < d * t.tdiv d → 0 ≤ t.tmod d) := by
  have h1 := Int.mul_tdiv_add_tmod t d
  constructor <;> intro h <;> omega


end Go.Proofs.Ytccokdfkmppohaa

/- A straight line, as an iterator: its contract. -/
namespace Go.Proofs.Ytccokdfkmppohaa
open Go.RowKit Go.Shelf
attribute [local go_sem] Oper.semAt_some

/-- The cell number k of a line. -/
def lineK (X Y Z V n : Int) (k : Nat) : Int × Int := (X + pF (k * (Z - X)) n, Y + pF (k * (V - Y)) n)
/-- A line's cells, n being how far its ends lie apart. -/
def lineF (X Y Z V : Int) (n : Nat) : List (Int × Int) := (List.range (n + 1)).map (lineK X Y Z V n)
section
variable {X Y Z V : Int} {n k : Nat}
theorem lineF_len : (lineF X Y Z V n).length = n + 1 := by simp [lineF]
theorem lineF_at (h : k < n + 1) : (lineF X Y Z V n)[k]? = some (lineK X Y Z V n k) := by simp [lineF, h]
theorem lineF_snoc (h : k < n + 1) : (lineF X Y Z V n).take (k + 1) = (lineF X Y Z V n).take k ++ [lineK X Y Z V n k] := by
  have hl : k < (lineF X Y Z V n).length := by rw [lineF_len]; exact h
  rw [List.take_succ_eq_append_getElem hl]
  simp [lineF]
theorem lineF_all (h : n + 1 ≤ k) : (lineF X Y Z V n).take k = lineF X Y Z V n := List.take_of_length_le (by rw [lineF_len]; exact h)
end
theorem pF_bd {v : Int} {n : Nat} (hv : -1048576 ≤ v ∧ v ≤ 1048576) (hn : n ≤ 4096) : -4194305 ≤ pF v n ∧ pF v n ≤ 4194304 := by
  by_cases h0 : (n : Int) = 0
  · rw [h0, pF_nil]
    omega
  · have hp : pF v n = (2 * v + n) / (2 * n) := by simp only [pF, if_neg h0]
    obtain ⟨q1, q2⟩ := tdiv_bd (2 * (n : Int)) (t := 2 * v + n) (by omega)
    rw [hp]
    by_cases hr : (2 * v + (n : Int)).tmod (2 * n) < 0
    · rw [div_low (by omega) hr]; omega
    · rw [div_up (by omega) (by omega)]; omega
/-- k steps of n, of no more than n, are no more than these bounds. -/
theorem step_bd {k n : Nat} {d : Int} (hk : k < n + 1) (hn : n ≤ 512) (hd : -(n : Int) ≤ d ∧ d ≤ n) : -1048576 ≤ (k : Int) * d ∧ (k : Int) * d ≤ 1048576 := by
  have h1 : (k : Int) * d ≤ k * (n : Int) := Int.mul_le_mul_of_nonneg_left hd.2 (by omega)
  have h2 : (k : Int) * -(n : Int) ≤ k * d := Int.mul_le_mul_of_nonneg_left hd.1 (by omega)
  have h3 : (k : Int) * n ≤ 512 * 512 := Int.mul_le_mul (by omega) (by omega) (by omega) (by omega)
  rw [Int.mul_neg] at h2
  omega

/-- What a line's iterator holds. -/
def LineAt (W : World) (p : Nat) (X Y Z V n : Int) : Prop :=
  W.cell? ⟨p, 0, none⟩ = some (.int .i64 X) ∧ W.cell? ⟨p, 1, none⟩ = some (.int .i64 Y) ∧ W.cell? ⟨p + 1, 0, none⟩ = some (.int .i64 Z) ∧ W.cell? ⟨p + 1, 1, none⟩ = some (.int .i64 V) ∧ W.cell? ⟨p + 2, 0, none⟩ = some (.int .i64 n)
theorem LineAt.kept {W W' : World} {p : Nat} {X Y Z V n : Int} (h : LineAt W p X Y Z V n) (x : KP p 3 W W') : LineAt W' p X Y Z V n :=
  ⟨x.cell (by omega) (by omega) h.1, x.cell (by omega) (by omega) h.2.1, x.cell (by omega) (by omega) h.2.2.1, x.cell (by omega) (by omega) h.2.2.2.1, x.cell (by omega) (by omega) h.2.2.2.2⟩
theorem LineAt.below {W W' : World} {p : Nat} {X Y Z V n : Int} (h : LineAt W p X Y Z V n) (x : Below W.heap.size W W') : LineAt W' p X Y Z V n :=
  ⟨cell_later x h.1, cell_later x h.2.1, cell_later x h.2.2.1, cell_later x h.2.2.2.1, cell_later x h.2.2.2.2⟩


end Go.Proofs.Ytccokdfkmppohaa

/- All that an iterator hands in, as a row: AppendSeq, Collect; Line. -/
namespace Go.Proofs.Ytccokdfkmppohaa
open Go.RowKit Go.Shelf
attribute [local go_sem] Oper.semAt_some

def encC (x : Int × Int) : Array Value := #[.agg #[.int .i64 x.1, .int .i64 x.2]]



/-- How far two cells lie apart, as a number. -/
theorem far_nat (X Y Z V : Int) : ∃ n : Nat, max (apartI X Z) (apartI Y V) = n ∧ (-(n : Int) ≤ Z - X ∧ Z - X ≤ n) ∧ (-(n : Int) ≤ V - Y ∧ V - Y ≤ n) := by
  refine ⟨(max (apartI X Z) (apartI Y V)).toNat, ?_, ?_, ?_⟩ <;> unfold apartI <;> omega


end Go.Proofs.Ytccokdfkmppohaa

/- A region that draws its order: an append to a row of one's own, where it alone may come. -/
namespace Go.Proofs.Ytccokdfkmppohaa
open Go

theorem ordS_append {F : Fence} {n : Nat} {P : Program} {ops : Array Oper} {Q : Exit → Act → World → Prop} {md : Region.Mode} {S : World → Prop} {i : Nat} {o : Oper} {j : Nat} {l : Array Bool} {a : Act} (w : World)
    (hr : Region.ready md ops l = [i]) (ho : ops[i]? = some o) (hw : Region.wanted o (yielded ops a.tmps) = true) (s x : Operand) (t : TypeId) (hop : o.op = Op.call { callee := Callee.builtin Builtin.append, args := #[s, x], argTypes := #[t, t] })
    (base : Nat) (e : TypeId) (ti : TypeInfo) (z : Value) (size bytes : Nat) (h1 : P.underlying t = some (.slice e)) (h2 : P.info? e = some ti) (h3 : ti.zero = some z) (h4 : ti.size = size) (h5 : ti.bytes = bytes) (h6 : z.cells.size = size) (h7 : 0 < size)
    (v : Value) (k : Nat) (xs : List Value) (hs : a.eval s = v) (hown : w.ownsRow base e size v k xs) (ad : Addr) (m c : Nat) (news : List Value) (hx : a.eval x = .slice (some ad) m c) (hn : news.length = m * size)
    (hc : ∀ j u, news[j]? = some u → w.cell? (ad.add j) = some u) (h1c : ∀ u ∈ news, u.oneCell' = true) (b1 : k + m ≤ maxLen) (b2 : (k + m) * bytes ≤ 140737488355328) (b3 : base ≤ w.heap.size)
    (hK : ∀ v' w', w'.ownsRow base e size v' (k + m) (xs ++ news) → w.grownBy w' v.ownBlock → S w' ∧ OrdS F n P md ops Q S j (l.setIfInBounds i true) (a.put o.dst v') w') :
    OrdS F n P md ops Q S (j + 1) l a w := by
  refine ordS_one hr ho hw fun K hK' => ?_
  obtain ⟨v', w', hrun, r1, r2, r3⟩ := run_append_own (P := P) w base t o.type e ti z size bytes h1 h2 h3 h4 h5 h6 h7 v k xs hown ad m c news hn hc h1c b1 b2 b3
  unfold Oper.wpIn
  refine ⟨?_, ?_⟩
  · simp [Oper.about, hop, resolve, Target.leads, Sem.run_pure]
  · rw [Oper.semAt_plain F _ _ (by rw [hop]; intro c hc'; cases hc')]
    simp [execOp, hop, resolve, invoke, builtin, hs, hx, hrun, Result.andThen]
    exact hK' _ _ (hK v' w' r1 r2).1 (hK v' w' r1 r2).2
end Go.Proofs.Ytccokdfkmppohaa

/- The document's answer for lines; whether two rows of cells are the same. -/
namespace Go.Proofs.Ytccokdfkmppohaa
open Go.RowKit

theorem own_cap {w : World} {base : Nat} {e : TypeId} {size n cap : Nat} {a : Option Addr} {xs : List Value} (h : w.ownsRow base e size (.slice a n cap) n xs) : n ≤ cap := by
  rcases h.2 with ⟨e1, h0⟩ | ⟨g, c, cur, e1, _, _, hc, _⟩
  · omega
  · cases e1; exact hc
theorem rowC_take {W : World} {a : Option Addr} {zs : List (Int × Int)} (h : RowC W a zs) (k : Nat) : RowC W a (zs.take k) := by
  rcases h with rfl | ⟨b, o, h1, h2⟩
  · exact .inl (by simp)
  · refine .inr ⟨b, o, h1, fun i z hz => h2 i z ?_⟩
    rw [List.getElem?_take] at hz
    split at hz
    · exact hz
    · cases hz

theorem take_sameC {xs ys : List (Int × Int)} {k : Nat} (hk : k < xs.length) (hk2 : k < ys.length) (h : xs.take k = ys.take k) (e : xs[k] = ys[k]) : xs.take (k + 1) = ys.take (k + 1) := by
  rw [List.take_succ_eq_append_getElem hk, List.take_succ_eq_append_getElem hk2, h, e]
theorem take_allC {xs ys : List (Int × Int)} {k : Nat} (h1 : xs.length ≤ k) (h2 : xs.length = ys.length) (h : xs.take k = ys.take k) : xs = ys := by
  rw [List.take_of_length_le h1, List.take_of_length_le (by omega)] at h
  exact h
end Go.Proofs.Ytccokdfkmppohaa

/- What is seen along a line: the mathematics. -/
namespace Go.Proofs.Ytccokdfkmppohaa
open Go.RowKit

/-- Up to the first wall, that is among them. -/
def takeTo (wl : Int × Int → Bool) : List (Int × Int) → List (Int × Int)
  | [] => []
  | c :: r => if wl c then [c] else c :: takeTo wl r
/-- From the first one on, up to the first wall behind it. -/
def walkL (wl : Int × Int → Bool) : List (Int × Int) → List (Int × Int)
  | [] => []
  | c :: r => c :: takeTo wl r
theorem takeTo_free (wl : Int × Int → Bool) : ∀ l : List (Int × Int), (∀ c ∈ l, wl c = false) → takeTo wl l = l
  | [], _ => rfl
  | c :: r, h => by
    rw [takeTo, if_neg (by rw [h c (by simp)]; decide), takeTo_free wl r (fun d hd => h d (by simp [hd]))]
theorem takeTo_stop (wl : Int × Int → Bool) (x : Int × Int) (t : List (Int × Int)) (hx : wl x = true) : ∀ l : List (Int × Int), (∀ c ∈ l, wl c = false) → takeTo wl (l ++ x :: t) = l ++ [x]
  | [], _ => by simp [takeTo, hx]
  | c :: r, h => by
    rw [List.cons_append, takeTo, if_neg (by rw [h c (by simp)]; decide), takeTo_stop wl x t hx r (fun d hd => h d (by simp [hd]))]
    rfl
theorem walk_free {wl : Int × Int → Bool} {l : List (Int × Int)} (h : ∀ c ∈ l.tail, wl c = false) : walkL wl l = l := by
  cases l with
  | nil => rfl
  | cons c r => rw [walkL, takeTo_free wl r h]
theorem walk_stop {wl : Int × Int → Bool} {l pre : List (Int × Int)} {x : Int × Int} (hp : pre ++ [x] <+: l) (h0 : pre ≠ []) (h : ∀ c ∈ pre.tail, wl c = false) (hx : wl x = true) : walkL wl l = pre ++ [x] := by
  obtain ⟨t, rfl⟩ := hp
  cases pre with
  | nil => exact absurd rfl h0
  | cons c r =>
    have e : (c :: r) ++ [x] ++ t = c :: (r ++ x :: t) := by simp
    rw [e, walkL, takeTo_stop wl x t hx r h]
    rfl
theorem walkL_len (wl : Int × Int → Bool) (l : List (Int × Int)) : (walkL wl l).length ≤ l.length := by
  have h : ∀ l : List (Int × Int), (takeTo wl l).length ≤ l.length := by
    intro l
    induction l with
    | nil => simp [takeTo]
    | cons c r ih =>
      rw [takeTo]
      split
      · simp
      · simp; omega
  cases l with
  | nil => simp [walkL]
  | cons c r => simp only [walkL, List.length_cons]; have := h r; omega

/-- All of n steps of n is n, and of none none. -/
theorem pF_all (n : Nat) (k : Int) : pF (k * n) n = if n = 0 then 0 else k := by
  unfold pF
  by_cases h : n = 0
  · simp [h]
  · rw [if_neg (by omega), if_neg h]
    refine (Int.ediv_emod_unique (r := (n : Int)) (by omega)).2 ⟨?_, by omega, by omega⟩ |>.1
    rw [Int.mul_assoc, Int.mul_comm (n : Int) k]
    omega
theorem pF_btw {k n : Nat} {d : Int} (hk : k ≤ n) (hd : -(n : Int) ≤ d ∧ d ≤ n) : (0 ≤ d → 0 ≤ pF (k * d) n ∧ pF (k * d) n ≤ d) ∧ (d ≤ 0 → d ≤ pF (k * d) n ∧ pF (k * d) n ≤ 0) := by
  by_cases h : n = 0
  · have : d = 0 := by omega
    subst this
    simp [pF, h]
  · have h2 : pF (k * d) n = (2 * ((k : Int) * d) + n) / (2 * n) := by unfold pF; rw [if_neg (by omega)]
    rw [h2]
    have hn : (0 : Int) < 2 * n := by omega
    constructor
    · intro h0
      have h3 : 0 ≤ (k : Int) * d := Int.mul_nonneg (by omega) h0
      have h4 : (k : Int) * d ≤ n * d := Int.mul_le_mul_of_nonneg_right (by omega) h0
      refine ⟨Int.ediv_nonneg (by omega) (by omega), ?_⟩
      have h5 : (2 * ((k : Int) * d) + n) / (2 * n) < d + 1 := by
        rw [Int.ediv_lt_iff_lt_mul hn, Int.add_mul]
        have e : d * (2 * (n : Int)) = 2 * (n * d) := by rw [← Int.mul_assoc, Int.mul_comm d 2, Int.mul_assoc, Int.mul_comm d n]
        rw [e]
        omega
      omega
    · intro h0
      have h3 : (k : Int) * d ≤ 0 := Int.mul_nonpos_of_nonneg_of_nonpos (by omega) h0
      have h4 : (n : Int) * d ≤ k * d := Int.mul_le_mul_of_nonpos_right (by omega) h0
      constructor
      · rw [Int.le_ediv_iff_mul_le hn]
        have e : d * (2 * (n : Int)) = 2 * (n * d) := by rw [← Int.mul_assoc, Int.mul_comm d 2, Int.mul_assoc, Int.mul_comm d n]
        rw [e]
        omega
      · have h5 : (2 * ((k : Int) * d) + n) / (2 * n) < 1 := by
          rw [Int.ediv_lt_iff_lt_mul hn]
          omega
        omega

/-- A line between two cells on a map lies on it. -/
theorem line_in {A B X Y Z V : Int} {n : Nat} (h1 : inB A B X Y = true) (h2 : inB A B Z V = true) (hdx : -(n : Int) ≤ Z - X ∧ Z - X ≤ n) (hdy : -(n : Int) ≤ V - Y ∧ V - Y ≤ n) {k : Nat} (hk : k ≤ n) : inB A B (lineK X Y Z V n k).1 (lineK X Y Z V n k).2 = true := by
  obtain ⟨a1, a2, a3, a4, a5, a6, a7, a8⟩ := inB_iff.1 h1
  obtain ⟨b1, b2, b3, b4, b5, b6, b7, b8⟩ := inB_iff.1 h2
  have p := pF_btw hk hdx
  have q := pF_btw hk hdy
  refine inB_iff.2 ⟨a1, a2, a3, a4, ?_, ?_, ?_, ?_⟩
  · show 0 ≤ X + _
    rcases Int.le_total 0 (Z - X) with h | h
    · have := p.1 h; omega
    · have := p.2 h; omega
  · show X + _ < A
    rcases Int.le_total 0 (Z - X) with h | h
    · have := p.1 h; omega
    · have := p.2 h; omega
  · show 0 ≤ Y + _
    rcases Int.le_total 0 (V - Y) with h | h
    · have := q.1 h; omega
    · have := q.2 h; omega
  · show Y + _ < B
    rcases Int.le_total 0 (V - Y) with h | h
    · have := q.1 h; omega
    · have := q.2 h; omega
theorem line_fst (X Y Z V : Int) (n : Nat) : lineK X Y Z V n 0 = (X, Y) := by
  have h : pF 0 (n : Int) = 0 := by
    have := pF_all n 0
    simp at this
    exact this
  simp [lineK, h]
/-- Behind its first cell a line doesn't come back to it. -/
theorem line_away {X Y Z V : Int} {n : Nat} (hf : max (apartI X Z) (apartI Y V) = n) {k : Nat} (h1 : 1 ≤ k) (h2 : k ≤ n) : lineK X Y Z V n k ≠ (X, Y) := by
  intro e
  have e1 : pF (k * (Z - X)) n = 0 := by have := congrArg Prod.fst e; simp only [lineK] at this; omega
  have e2 : pF (k * (V - Y)) n = 0 := by have := congrArg Prod.snd e; simp only [lineK] at this; omega
  have hn : n ≠ 0 := by omega
  have key : ∀ d : Int, d = n ∨ d = -(n : Int) → pF (k * d) n ≠ 0 := by
    rintro d (rfl | rfl)
    · have := pF_all n k
      rw [if_neg hn] at this
      omega
    · have := pF_all n (-(k : Int))
      rw [if_neg hn] at this
      rw [Int.mul_neg, ← Int.neg_mul]
      omega
  unfold apartI at hf
  by_cases h : Z - X = n ∨ Z - X = -(n : Int)
  · exact key _ h e1
  · exact key (V - Y) (by omega) e2
end Go.Proofs.Ytccokdfkmppohaa

/- What is seen along a line: wall, walk. -/
namespace Go.Proofs.Ytccokdfkmppohaa
open Go.RowKit Go.Shelf
attribute [local go_sem] Oper.semAt_some

/-- Whether a cell is a wall, of a map that is A wide. -/
def wallB (A : Int) (zs : List Int) (c : Int × Int) : Bool := zs.getD (c.2 * A + c.1).toNat 1 == 0
theorem wallB_at {A : Int} {zs : List Int} {x y : Int} {j : Nat} (hj : y * A + x = j) (hl : j < zs.length) : wallB A zs (x, y) = (zs[j] == 0) := by
  unfold wallB
  have e : ((x, y).2 * A + (x, y).1).toNat = j := by show (y * A + x).toNat = j; omega
  rw [e]
  simp [hl]
theorem num_of {A B x y : Int} {n : Int} (hi : inB A B x y = true) (hn : n = A * B) : ∃ j : Nat, y * A + x = j ∧ (j : Int) < n := by
  obtain ⟨h1, h2, h3, h4, h5, h6, h7, h8⟩ := inB_iff.1 hi
  obtain ⟨m1, m2⟩ := mul_bd h7 (by omega) h1 h2
  have e : (y + 1) * A ≤ B * A := Int.mul_le_mul_of_nonneg_right (by omega) (by omega)
  rw [Int.add_mul, Int.one_mul, Int.mul_comm B A] at e
  exact ⟨(y * A + x).toNat, by omega, by omega⟩


/-- What is seen along a line. -/
def seenF (A : Int) (zs : List Int) (X Y Z V : Int) (n : Nat) : List (Int × Int) := walkL (wallB A zs) (lineF X Y Z V n)

/-- What the loop holds: its row, in a block g, in a box m; what lay ahead lies as it lay. -/
def RowJ (w : World) (m g cp : Nat) (pre : List (Int × Int)) (W : World) : Prop := Below w.heap.size w W ∧ Boxed W m 38 (.slice (some ⟨g, 0, none⟩) pre.length cp) ∧ W.ownsRow w.heap.size 26 2 (.slice (some ⟨g, 0, none⟩) pre.length cp) pre.length (flatC pre)
theorem RowJ.gcells {w : World} {m g cp : Nat} {pre : List (Int × Int)} {W : World} (h : RowJ w m g cp pre W) : ∃ cur, W.heap[g]? = some (.cells cur 26 (0, 0)) := by
  rcases h.2.2.2 with ⟨e, _⟩ | ⟨g', cap, cur, e, _, hg, _⟩
  · cases e
  · cases e; exact ⟨cur, hg⟩
theorem rowJ_grown {w : World} {m g cp : Nat} {pre : List (Int × Int)} {A B : World} {row : Option Nat} (h : RowJ w m g cp pre A) (hg : A.grownBy B row) (hr : ∀ r, row = some r → w.heap.size ≤ r ∧ r ≠ m ∧ r ≠ g) : RowJ w m g cp pre B := by
  refine ⟨h.1.grown hg h.1.size (fun r e => (hr r e).1), h.2.1.kept hg (fun e => (hr m e.symm).2.1 rfl), h.2.2.kept hg (.inr fun e => ?_)⟩
  exact (hr g (by simpa [Value.ownBlock] using e.symm)).2.2 rfl
theorem rowJ_own {n₁ : Nat} {w : World} (hn : w.heap.size ≤ n₁) (m g cp : Nat) : OwnFrom n₁ (RowJ w m g cp) := fun s C D row hs hg hr =>
  rowJ_grown hs hg (fun r e => by
    obtain ⟨h1, o, ho, hc⟩ := hr r e
    refine ⟨Nat.le_trans hn h1, fun e1 => ?_, fun e1 => ?_⟩
    · rw [e1, show C.heap[m]? = _ from hs.2.1] at ho; cases ho; cases hc
    · obtain ⟨cur, hcur⟩ := hs.gcells
      rw [e1, hcur] at ho; cases ho; cases hc)
theorem rowJ_abp {p c : Nat} {w : World} {m g cp : Nat} (hp : w.heap.size ≤ p) (hm : m < p) (hg : g < p) : AbP p c (RowJ w m g cp) := fun s C D row hs hgr hr =>
  rowJ_grown hs hgr (fun r e => ⟨by have := (hr r e).1; omega, by have := (hr r e).1; omega, by have := (hr r e).1; omega⟩)
theorem keeps_below {n : Nat} {A B : World} (h : Below A.heap.size A B) : KeepsFrom n A B := ⟨h.size, fun k _ _ hk _ => (h.block k (Array.getElem?_eq_some_iff.1 hk).1).trans hk⟩
theorem kp_appended {p c m g : Nat} {W w1 : World} {tmp : Obj} {u : Value} (hgrow : (W.alloc tmp).grownBy w1 (some g)) (hm : m < p) (hg : g < p) (hp : p + c ≤ W.heap.size) : KP p c W (w1.setCell ⟨m, 0, none⟩ u) := by
  have hz := hgrow.size
  rw [World.size_alloc] at hz
  refine ⟨by simp; omega, fun k h1 h2 => ?_⟩
  refine (Below.heap_setCell _ _ _ k (show k ≠ m by omega)).trans ((hgrow.block k (by rw [World.size_alloc]; omega) (fun e => by cases e; omega)).trans (Below.heap_alloc _ _ _ (by omega)))
end Go.Proofs.Ytccokdfkmppohaa

/- What is seen along a line: walk. -/
namespace Go.Proofs.Ytccokdfkmppohaa
open Go.RowKit Go.Shelf
attribute [local go_sem] Oper.semAt_some

theorem in_plain {A B X Y : Int} (h : inB A B X Y = true) : plainB X Y = true := by
  obtain ⟨h1, h2, h3, h4, h5, h6, h7, h8⟩ := inB_iff.1 h
  exact plainB_iff.2 ⟨by omega, by omega, by omega, by omega⟩
theorem far_in {A B X Y Z V : Int} (h1 : inB A B X Y = true) (h2 : inB A B Z V = true) : max (apartI X Z) (apartI Y V) ≤ 255 := by
  obtain ⟨a1, a2, a3, a4, a5, a6, a7, a8⟩ := inB_iff.1 h1
  obtain ⟨b1, b2, b3, b4, b5, b6, b7, b8⟩ := inB_iff.1 h2
  unfold apartI
  omega

end Go.Proofs.Ytccokdfkmppohaa

/- What is seen along a line: Walk; the chapter's examples. -/
namespace Go.Proofs.Ytccokdfkmppohaa
open Go.RowKit

/-- What is wrong with a field and two cells. -/
def errW (A B n X Y Z V : Int) : Int := if chkF A B n ≠ 0 then chkF A B n else if (inB A B X Y && inB A B Z V) = true then 0 else 10
theorem errW_ok {A B n X Y Z V : Int} (h : errW A B n X Y Z V = 0) : chkF A B n = 0 ∧ inB A B X Y = true ∧ inB A B Z V = true := by
  unfold errW at h
  split at h
  · rename_i h1
    exact absurd h h1
  · rename_i h1
    split at h
    · rename_i h2
      rw [Bool.and_eq_true] at h2
      exact ⟨by simpa using h1, h2.1, h2.2⟩
    · cases h
theorem chk_area {A B : Int} {n : Int} (h : chkF A B n = 0) : n = A * B := by
  unfold chkF at h
  split at h
  · split at h
    · rename_i hn; exact hn
    · cases h
  · cases h


end Go.Proofs.Ytccokdfkmppohaa

/- What is seen along a line: Sees; the document's answer. -/
namespace Go.Proofs.Ytccokdfkmppohaa
open Go.RowKit

theorem take_prefix_walk (wl : Int × Int → Bool) (l : List (Int × Int)) : walkL wl l <+: l := by
  have h : ∀ l : List (Int × Int), takeTo wl l <+: l := by
    intro l
    induction l with
    | nil => exact List.prefix_rfl
    | cons c r ih =>
      rw [takeTo]
      split
      · exact ⟨r, rfl⟩
      · exact (List.prefix_cons_inj c).2 ih
  cases l with
  | nil => exact List.prefix_rfl
  | cons c r => exact (List.prefix_cons_inj c).2 (h r)
theorem walkL_pos (wl : Int × Int → Bool) {l : List (Int × Int)} (h : l ≠ []) : walkL wl l ≠ [] := by
  cases l with
  | nil => exact absurd rfl h
  | cons c r => simp [walkL]
theorem line_inj {X Y Z V : Int} {n : Nat} (hf : max (apartI X Z) (apartI Y V) = n) {i j : Nat} (h : lineK X Y Z V n i = lineK X Y Z V n j) (hi : i ≤ n) (hj : j ≤ n) : i = j := by
  have e1 : pF (i * (Z - X)) n = pF (j * (Z - X)) n := by have := congrArg Prod.fst h; simp only [lineK] at this; omega
  have e2 : pF (i * (V - Y)) n = pF (j * (V - Y)) n := by have := congrArg Prod.snd h; simp only [lineK] at this; omega
  by_cases hn : n = 0
  · omega
  have key : ∀ d : Int, d = n ∨ d = -(n : Int) → pF (i * d) n = pF (j * d) n → i = j := by
    rintro d (rfl | rfl) e
    · have p := pF_all n i
      have q := pF_all n j
      rw [if_neg hn] at p q
      omega
    · have p := pF_all n (-(i : Int))
      have q := pF_all n (-(j : Int))
      rw [if_neg hn] at p q
      rw [Int.mul_neg, Int.mul_neg, ← Int.neg_mul, ← Int.neg_mul] at e
      omega
  unfold apartI at hf
  by_cases h : Z - X = n ∨ Z - X = -(n : Int)
  · exact key _ h e1
  · exact key (V - Y) (by omega) e2
theorem line_end {X Y Z V : Int} {n : Nat} (hf : max (apartI X Z) (apartI Y V) = n) : lineK X Y Z V n n = (Z, V) := by
  have key : ∀ d : Int, -(n : Int) ≤ d → d ≤ n → pF (n * d) n = d := by
    intro d h1 h2
    have := pF_all n d
    rw [Int.mul_comm] at this
    rw [this]
    split
    · omega
    · rfl
  unfold apartI at hf
  unfold lineK
  rw [key _ (by omega) (by omega), key _ (by omega) (by omega)]
  exact Prod.ext (by show X + (Z - X) = Z; omega) (by show Y + (V - Y) = V; omega)
/-- One sees the end just if it is the last that one sees. -/
theorem seen_end {A : Int} {zs : List Int} {X Y Z V : Int} {n : Nat} (hf : max (apartI X Z) (apartI Y V) = n) {m : Nat} (hm : (seenF A zs X Y Z V n).length = m + 1) :
    ∃ x y, (seenF A zs X Y Z V n)[m]? = some (x, y) ∧ (decide ((Z, V) ∈ seenF A zs X Y Z V n) = decide ((x, y) = (Z, V))) := by
  have hp := take_prefix_walk (wallB A zs) (lineF X Y Z V n)
  have hml : m < n + 1 := by
    have h := hp.length_le
    rw [lineF_len] at h
    have h2 : (walkL (wallB A zs) (lineF X Y Z V n)).length = m + 1 := hm
    omega
  have ht : seenF A zs X Y Z V n = (lineF X Y Z V n).take (m + 1) := by
    have h := List.prefix_iff_eq_take.1 hp
    have h2 : (walkL (wallB A zs) (lineF X Y Z V n)).length = m + 1 := hm
    rw [h2] at h
    exact h
  refine ⟨(lineK X Y Z V n m).1, (lineK X Y Z V n m).2, ?_, ?_⟩
  · rw [ht, List.getElem?_take, if_pos (by omega), lineF_at hml]
  · rw [decide_eq_decide]
    rw [show ((lineK X Y Z V n m).1, (lineK X Y Z V n m).2) = lineK X Y Z V n m from rfl]
    constructor
    · intro h
      rw [ht] at h
      obtain ⟨i, hi, e⟩ := List.getElem_of_mem h
      rw [List.length_take, lineF_len] at hi
      have e2 := List.getElem?_eq_getElem (l := (lineF X Y Z V n).take (m + 1)) (i := i) (by rw [List.length_take, lineF_len]; exact hi)
      rw [List.getElem?_take, if_pos (by omega), lineF_at (by omega), e] at e2
      have e3 : lineK X Y Z V n i = lineK X Y Z V n n := (Option.some.inj e2).trans (line_end hf).symm
      have := line_inj hf e3 (by omega) (Nat.le_refl _)
      have hmn : m = n := by omega
      rw [hmn]
      exact line_end hf
    · intro h
      have e3 : lineK X Y Z V n m = lineK X Y Z V n n := h.trans (line_end hf).symm
      have := line_inj hf e3 (by omega) (Nat.le_refl _)
      subst this
      rw [ht, ← h]
      refine List.mem_of_getElem? (i := m) ?_
      rw [List.getElem?_take, if_pos (by omega), lineF_at hml]

theorem not_mem_at {xs : List (Int × Int)} {v : Int × Int} (h : ∀ j, j < xs.length → xs[j]? ≠ some v) : v ∉ xs := by
  intro hm
  obtain ⟨i, hi, e⟩ := List.getElem_of_mem hm
  exact h i hi (by rw [List.getElem?_eq_getElem hi, e])

end Go.Proofs.Ytccokdfkmppohaa

/- What is seen along a line: Sees, and the document's answer. -/
namespace Go.Proofs.Ytccokdfkmppohaa
open Go.RowKit

theorem seen_len (A : Int) (zs : List Int) (X Y Z V : Int) (n : Nat) : (seenF A zs X Y Z V n).length ≤ n + 1 := by
  have h := walkL_len (wallB A zs) (lineF X Y Z V n)
  rw [lineF_len] at h
  exact h

end Go.Proofs.Ytccokdfkmppohaa

/- What is seen along a line: the document's answer. -/
namespace Go.Proofs.Ytccokdfkmppohaa
open Go.RowKit

theorem tail_one {l : List (Int × Int)} (h : l.length ≤ 1) : l.tail = [] := by
  match l, h with
  | [], _ => rfl
  | [_], _ => rfl
end Go.Proofs.Ytccokdfkmppohaa

/- Package mask: Has, Set off the map, of nothing, and Size. -/
namespace Go.Proofs.Ytccokdfkmppohaa
open Go.RowKit

set_option maxHeartbeats 1600000 in
theorem has_yes (b h : Nat) (X Y x y : Int) (bs : List Nat) (w : World) (hm : MaskAt w b h X Y bs) (hg : Good X Y bs) (hi : inB X Y x y = true) :
    Calls Try.prog 22 #[.pointer (some ⟨b, 0, none⟩), .agg #[.int .i64 x, .int .i64 y]] w fun e w' => e = .returned (.bool (bitAt bs (y * X + x).toNat)) ∧ Below w.heap.size w w' := by
  obtain ⟨i0, i1⟩ := idx_lt hi
  have hix := hg.idx hi
  obtain ⟨o, ho⟩ : ∃ o, bs[(y * X + x).toNat / 8]? = some o := ⟨_, List.getElem?_eq_getElem hix⟩
  have hod : bs.getD ((y * X + x).toNat / 8) 0 = o := by rw [List.getD_eq_getElem?_getD, ho]; rfl
  have hob : o < 256 := hg.2.2.1 o (List.mem_of_getElem? ho)
  have hk : (y * X + x).toNat / 8 = ((y * X + x) / 8).toNat := by omega
  have hp := pow8 (y * X + x).toNat
  have hp2 : (2 : Int) ^ ((y * X + x) % 8).toNat % 256 = ((2 ^ ((y * X + x).toNat % 8) : Nat) : Int) := by
    have e1 : ((y * X + x) % 8).toNat = (y * X + x).toNat % 8 := by omega
    have e2 : ((2 ^ ((y * X + x).toNat % 8) : Nat) : Int) = (2 : Int) ^ ((y * X + x).toNat % 8) := by simp
    rw [e1, ← e2]; exact Int.emod_eq_of_lt (Int.natCast_nonneg _) (Int.ofNat_lt.2 hp)
  have hb2 : (bits .and .u8 (o : Int) ((2 : Int) ^ ((y * X + x) % 8).toNat % 256) != 0) = bitAt bs (y * X + x).toNat := by
    rw [hp2, u8_and _ _ hob hp]
    unfold bitAt
    rw [hod, ← and_pow_bit]
    rw [Bool.eq_iff_iff]
    simp only [bne_iff_ne, ne_eq]
    omega
  have HB := Lib.hid hb2
  rw [hk] at ho hix
  have c0 := hm.c0
  have c1 := hm.c1
  have c2 := hm.c2
  have q := hm.at ho
  have z0 := hm.lt.1
  have z1 := hm.lt.2
  have k0 : 0 ≤ (y * X + x) / 8 := by omega
  have k1 : (y * X + x) / 8 < (bs.length : Int) := by omega
  have i2 : y * X + x ≤ 65536 := by
    obtain ⟨h1, h2, h3, h4, h5, h6, h7, h8⟩ := inB_iff.1 hi
    have := (mul_bd h7 (by omega) h1 h2).2
    omega
  clear hb2 hp2 hod hk ho hp hob
  go_enter Try.func22, Try.ntmps22
  go_wp2_with fail
  obtain ⟨w1, hw1⟩ : ∃ w1, w.alloc (.cells #[.int .i64 x, .int .i64 y] 26) = w1 := ⟨_, rfl⟩
  have hb1 : Below w.heap.size w w1 := by rw [← hw1]; exact bl_al (bl0 _) _
  have d0 : w1.cell? ⟨w.heap.size, 0, none⟩ = some (.int .i64 x) := by rw [← hw1]; simp [go_sem]
  have d1 : w1.cell? ⟨w.heap.size, 1, none⟩ = some (.int .i64 y) := by rw [← hw1]; simp [go_sem]
  replace c0 := cell_later hb1 c0
  replace c1 := cell_later hb1 c1
  replace c2 := cell_later hb1 c2
  replace q := cell_later hb1 q
  rw [hw1]
  clear hw1
  have hA := bl_dr (bl0 w1)
  go_region_held3 (fun w' => w'.cell? ⟨b, 0, none⟩ = some (.int .i64 X) ∧ w'.cell? ⟨b, 1, none⟩ = some (.int .i64 Y) ∧ w'.cell? ⟨w.heap.size, 0, none⟩ = some (.int .i64 x) ∧ w'.cell? ⟨w.heap.size, 1, none⟩ = some (.int .i64 y))
    (exact ⟨cell_later hA c0, cell_later hA c1, cell_later hA d0, cell_later hA d1⟩)
    ((go_at_call 32; refine (index_yes _ _ _ _ _ hi).mono ?_; rintro e W2 ⟨rfl, hb⟩; replace hA := bl_tr hA hb; clear hb))
  replace c2 := cell_later hA c2
  replace q := cell_later hA q
  clear c0 c1 d0 d1
  go_wp2_with fail
  refine (place_any _ _ i0 i2).mono ?_
  rintro e W3 ⟨rfl, hb⟩
  replace c2 := cell_later hb c2
  replace q := cell_later hb q
  have hB3 := bl_tr (bl_tr hb1 hA) hb
  clear hm hb hA hb1
  go_wp2
  go_ret
  exact ⟨ret_bool HB.out, hB3⟩

set_option maxHeartbeats 1600000 in
theorem has_no (b h : Nat) (X Y x y : Int) (bs : List Nat) (w : World) (hm : MaskAt w b h X Y bs) (hi : inB X Y x y = false) :
    Calls Try.prog 22 #[.pointer (some ⟨b, 0, none⟩), .agg #[.int .i64 x, .int .i64 y]] w fun e w' => e = .returned (.bool false) ∧ Below w.heap.size w w' := by
  have c0 := hm.c0
  have c1 := hm.c1
  have z0 := hm.lt.1
  clear hm
  go_enter Try.func22, Try.ntmps22
  go_wp2_with fail
  obtain ⟨w1, hw1⟩ : ∃ w1, w.alloc (.cells #[.int .i64 x, .int .i64 y] 26) = w1 := ⟨_, rfl⟩
  have hb1 : Below w.heap.size w w1 := by rw [← hw1]; exact bl_al (bl0 _) _
  have d0 : w1.cell? ⟨w.heap.size, 0, none⟩ = some (.int .i64 x) := by rw [← hw1]; simp [go_sem]
  have d1 : w1.cell? ⟨w.heap.size, 1, none⟩ = some (.int .i64 y) := by rw [← hw1]; simp [go_sem]
  replace c0 := cell_later hb1 c0
  replace c1 := cell_later hb1 c1
  rw [hw1]
  clear hw1
  have hA := bl_dr (bl0 w1)
  go_region_held3 (fun w' => w'.cell? ⟨b, 0, none⟩ = some (.int .i64 X) ∧ w'.cell? ⟨b, 1, none⟩ = some (.int .i64 Y) ∧ w'.cell? ⟨w.heap.size, 0, none⟩ = some (.int .i64 x) ∧ w'.cell? ⟨w.heap.size, 1, none⟩ = some (.int .i64 y))
    (exact ⟨cell_later hA c0, cell_later hA c1, cell_later hA d0, cell_later hA d1⟩)
    ((go_at_call 32; refine (index_no _ _ _ _ _ hi).mono ?_; rintro e W2 ⟨rfl, hb⟩; replace hA := bl_tr hA hb; clear hb))
  clear c0 c1 d0 d1
  go_wp2
  go_ret
  exact ⟨rfl, bl_tr hb1 hA⟩

set_option maxHeartbeats 1600000 in
theorem set_no (b h : Nat) (X Y x y : Int) (bs : List Nat) (v : Bool) (w : World) (hm : MaskAt w b h X Y bs) (hi : inB X Y x y = false) :
    Calls Try.prog 28 #[.pointer (some ⟨b, 0, none⟩), .agg #[.int .i64 x, .int .i64 y], .bool v] w fun e w' => e = .returned (.int .i64 10) ∧ Below w.heap.size w w' := by
  have c0 := hm.c0
  have c1 := hm.c1
  have z0 := hm.lt.1
  clear hm
  go_enter Try.func28, Try.ntmps28
  go_wp2_with fail
  obtain ⟨w1, hw1⟩ : ∃ w1, w.alloc (.cells #[.int .i64 x, .int .i64 y] 26) = w1 := ⟨_, rfl⟩
  have hb1 : Below w.heap.size w w1 := by rw [← hw1]; exact bl_al (bl0 _) _
  have d0 : w1.cell? ⟨w.heap.size, 0, none⟩ = some (.int .i64 x) := by rw [← hw1]; simp [go_sem]
  have d1 : w1.cell? ⟨w.heap.size, 1, none⟩ = some (.int .i64 y) := by rw [← hw1]; simp [go_sem]
  replace c0 := cell_later hb1 c0
  replace c1 := cell_later hb1 c1
  rw [hw1]
  clear hw1
  have hA := bl_dr (bl0 w1)
  go_region_held3 (fun w' => w'.cell? ⟨b, 0, none⟩ = some (.int .i64 X) ∧ w'.cell? ⟨b, 1, none⟩ = some (.int .i64 Y) ∧ w'.cell? ⟨w.heap.size, 0, none⟩ = some (.int .i64 x) ∧ w'.cell? ⟨w.heap.size, 1, none⟩ = some (.int .i64 y))
    (exact ⟨cell_later hA c0, cell_later hA c1, cell_later hA d0, cell_later hA d1⟩)
    ((go_at_call 32; refine (index_no _ _ _ _ _ hi).mono ?_; rintro e W2 ⟨rfl, hb⟩; replace hA := bl_tr hA hb; clear hb))
  clear c0 c1 d0 d1
  go_wp2
  go_ret
  exact ⟨rfl, bl_tr hb1 hA⟩

set_option maxHeartbeats 400000 in
theorem has_nil (x y : Int) (w : World) :
    Calls Try.prog 22 #[.pointer none, .agg #[.int .i64 x, .int .i64 y]] w fun e w' => e = .returned (.bool false) ∧ Below w.heap.size w w' := by
  go_enter Try.func22, Try.ntmps22
  go_wp2
  go_ret
  exact ⟨rfl, bl_al (bl0 _) _⟩

set_option maxHeartbeats 400000 in
theorem set_nil (x y : Int) (v : Bool) (w : World) :
    Calls Try.prog 28 #[.pointer none, .agg #[.int .i64 x, .int .i64 y], .bool v] w fun e w' => e = .returned (.int .i64 2) ∧ Below w.heap.size w w' := by
  go_enter Try.func28, Try.ntmps28
  go_wp2
  go_ret
  exact ⟨rfl, bl_al (bl0 _) _⟩

set_option maxHeartbeats 400000 in
theorem size_any (b h : Nat) (X Y : Int) (bs : List Nat) (w : World) (hm : MaskAt w b h X Y bs) :
    Calls Try.prog 30 #[.pointer (some ⟨b, 0, none⟩)] w fun e w' => e = .returned (.agg #[.int .i64 X, .int .i64 Y]) ∧ Below w.heap.size w w' := by
  have c0 := hm.c0
  have c1 := hm.c1
  have z0 := hm.lt.1
  clear hm
  go_enter Try.func30, Try.ntmps30
  go_wp2
  refine bodyPost_ret (v := .agg #[.int .i64 X, .int .i64 Y]) (by simp [results, Try.results30, go_sem]) rfl ⟨rfl, ?_⟩
  exact bl_al (bl0 _) _

set_option maxHeartbeats 400000 in
theorem size_nil (w : World) :
    Calls Try.prog 30 #[.pointer none] w fun e w' => e = .returned (.agg #[.int .i64 0, .int .i64 0]) ∧ Below w.heap.size w w' := by
  go_enter Try.func30, Try.ntmps30
  go_wp2
  refine bodyPost_ret (v := .agg #[.int .i64 0, .int .i64 0]) (by simp [results, Try.results30, go_sem]) rfl ⟨rfl, ?_⟩
  exact bl_al (bl0 _) _
end Go.Proofs.Ytccokdfkmppohaa

/- Package mask: New, Bytes, Clone. -/
namespace Go.Proofs.Ytccokdfkmppohaa
open Go.RowKit

set_option maxHeartbeats 1600000 in
theorem new_no (X Y : Int) (w : World) (hm : mayB X Y = false) :
    Calls Try.prog 27 #[.agg #[.int .i64 X, .int .i64 Y]] w fun e w' => e = .returned (.tuple #[.pointer none, .int .i64 10]) ∧ Below w.heap.size w w' := by
  have hA := bl0 w
  go_enter Try.func27, Try.ntmps27
  go_wp2_with (go_at_call 25; refine (may_any _ _ _).mono ?_; rintro e w' ⟨rfl, hb⟩; obtain ⟨hc, hf⟩ := bcell hb)
  go_ret2
  exact ⟨rfl, bl_tr (bl_al (bl0 _) _) hb⟩

theorem Try.infoU8 : (Try.prog.info? 5).map (fun i => (i.zero, i.size, i.bytes)) = some (some (.int .u8 0), 1, 1) := by kernel_rfl
theorem made_eq (n : Nat) (v : Value) : madeCells #[v] n = Array.replicate n v := by
  apply Array.ext
  · simp [madeCells]
  · intro i h1 h2
    simp [madeCells, Nat.mod_one]
theorem make_u8 (n : Nat) (hn : n ≤ 1048576) (w : World) : (Instr.makeSlice 81 (.int .i64 (n : Int)) (.int .i64 (n : Int))).run Try.prog w = .ok (.slice (some ⟨w.heap.size, 0, none⟩) n n) (w.alloc (.cells (Array.replicate n (Value.int .u8 0)) 5)) := by
  have := run_make_row' (P := Try.prog) 81 5 (.int .u8 0) 1 Try.underlying81 Try.infoU8 rfl .i64 .i64 n (by omega) (by omega) w
  rw [made_eq] at this
  exact this

set_option maxHeartbeats 1600000 in
theorem new_yes (X Y : Int) (w : World) (hm : mayB X Y = true) :
    Calls Try.prog 27 #[.agg #[.int .i64 X, .int .i64 Y]] w fun e w' => ∃ b h, e = .returned (.tuple #[.pointer (some ⟨b, 0, none⟩), .int .i64 0]) ∧ MaskAt w' b h X Y (List.replicate ((X * Y + 7) / 8).toNat 0) ∧ w.heap.size ≤ b ∧ w.heap.size ≤ h ∧ b ≠ h ∧ Below w.heap.size w w' := by
  obtain ⟨h1, h2, h3, h4⟩ := mayB_iff.1 hm
  obtain ⟨m1, m2⟩ : 0 ≤ X * Y ∧ X * Y ≤ 65536 := ⟨Int.mul_nonneg (by omega) (by omega), by have a : X * Y ≤ 256 * Y := Int.mul_le_mul_of_nonneg_right h2 (by omega); omega⟩
  obtain ⟨n, hn⟩ : ∃ n : Nat, (n : Int) = (X * Y + 7) / 8 := ⟨((X * Y + 7) / 8).toNat, by omega⟩
  have hmk := fun w => make_u8 n (by omega) w
  rw [hn] at hmk
  have HN := Lib.hid (show ((X * Y + 7) / 8).toNat = n by omega)
  go_enter Try.func27, Try.ntmps27
  clear hn
  go_wp2_with (go_at_call 25; refine (may_any _ _ _).mono ?_; rintro e w' ⟨rfl, hb⟩; obtain ⟨hc, hf⟩ := bcell hb)
  have c0 : w'.cell? ⟨w.heap.size, 0, none⟩ = some (.int .i64 X) := (hc _ _ (by simp)).trans (by simp [go_sem])
  have c1 : w'.cell? ⟨w.heap.size, 1, none⟩ = some (.int .i64 Y) := (hc _ _ (by simp)).trans (by simp [go_sem])
  have hbw := bl_tr (bl_al (bl0 w) _) hb
  clear hc hf hb
  have hA := bl_dr (bl0 w')
  go_region_held3 (fun w2 => w2.cell? ⟨w.heap.size, 0, none⟩ = some (.int .i64 X) ∧ w2.cell? ⟨w.heap.size, 1, none⟩ = some (.int .i64 Y))
    (first | exact ⟨cell_later hA c0, cell_later hA c1⟩ | exact ⟨cell_later (bl_al hA _) c0, cell_later (bl_al hA _) c1⟩ | exact ⟨cell_later (bl_al (bl_al hA _) _) c0, cell_later (bl_al (bl_al hA _) _) c1⟩)
    ((go_at_call 37; refine (length_any _ _ _ hm).mono ?_; rintro e W2 ⟨rfl, hb⟩; replace hA := bl_tr hA hb; clear hb))
  go_wp2
  go_ret2
  have hsz := bl_tr hbw hA
  have h9 := hsz.size
  refine ⟨W2.heap.size + 1, W2.heap.size, rfl, ?_, by omega, by omega, by omega, bl_al (bl_al hsz _) _⟩
  rw [HN.out]
  refine ⟨?_, ?_⟩
  · rw [List.length_replicate]
    have h := heap_alloc_new (W2.alloc (.cells (Array.replicate n (Value.int .u8 0)) 5)) (.cells #[.int .i64 X, .int .i64 Y, .slice (some ⟨W2.heap.size, 0, none⟩) n n] 83)
    rw [World.size_alloc] at h
    exact h
  · rw [Below.heap_alloc _ _ _ (by simp), heap_alloc_new]
    simp

end Go.Proofs.Ytccokdfkmppohaa

/- Package mask: Clone, Count, and what is told of nothing. -/
namespace Go.Proofs.Ytccokdfkmppohaa
open Go.RowKit


/-- How many bits bytes have. -/
def ones (bs : List Nat) : Nat := (bs.map Lib.onesCount).sum
theorem ones_le : ∀ bs : List Nat, IsBytes bs → ones bs ≤ 8 * bs.length
  | [], _ => by simp [ones]
  | x :: bs, h => by
    have a := Lib.onesCount_le8 ⟨x, h x (by simp)⟩
    have b := ones_le bs (fun y hy => h y (by simp [hy]))
    simp only [ones, List.map_cons, List.sum_cons, List.length_cons] at b ⊢
    simp only at a
    omega
theorem ones_succ (bs : List Nat) (k : Nat) (hk : k < bs.length) : ones (bs.take (k + 1)) = ones (bs.take k) + Lib.onesCount bs[k] := by
  rw [List.take_succ_eq_append_getElem hk]
  unfold ones
  rw [List.map_append, List.sum_append]
  simp only [List.map_cons, List.map_nil, List.sum_cons, List.sum_nil, Nat.add_zero]
theorem IsBytes.take {bs : List Nat} (h : IsBytes bs) (k : Nat) : IsBytes (bs.take k) := fun x hx => h x (List.mem_of_mem_take hx)
theorem room_arith (s c l : Nat) (h : s + c ≤ 8 * l) (hl : l ≤ 65536) : (s : Int) + (c : Int) ≤ 600000 ∧ (0 : Int) ≤ (s : Int) ∧ (0 : Int) ≤ (c : Int) := by omega
theorem ones_room (bs : List Nat) (hb : IsBytes bs) (hl : bs.length ≤ 65536) (k : Nat) (hk : k < bs.length) : (ones (bs.take k) : Int) + (Lib.onesCount bs[k] : Int) ≤ 600000 ∧ (0 : Int) ≤ (ones (bs.take k) : Int) ∧ (0 : Int) ≤ (Lib.onesCount bs[k] : Int) := by
  exact room_arith _ _ _ (Nat.le_trans (Nat.le_of_eq (ones_succ bs k hk).symm) (Nat.le_trans (ones_le _ (hb.take _)) (Nat.mul_le_mul_left 8 (List.length_take_le' _ _)))) hl
theorem ones_call (x : Nat) (hx : x < 256) (w : World) : Calls Try.prog 35 #[.int .u8 (x : Int)] w fun e w' => e = .returned (.int .i64 (Lib.onesCount x : Nat)) ∧ w = w' := by
  refine (Try.bits_OnesCount8 (x : Int) w (by omega) (by omega)).mono ?_
  rintro e w' ⟨rfl, rfl⟩
  exact ⟨rfl, rfl⟩

set_option maxHeartbeats 1600000 in
theorem count_any (b h : Nat) (X Y : Int) (bs : List Nat) (w : World) (hm : MaskAt w b h X Y bs) (hb : IsBytes bs) (hl : bs.length ≤ 65536) :
    Calls Try.prog 17 #[.pointer (some ⟨b, 0, none⟩)] w fun e w' => e = .returned (.int .i64 (ones bs : Nat)) ∧ w = w' := by
  have c2 := hm.c2
  have z0 := hm.lt.1
  have hl2 : (bs.length : Int) ≤ 65536 := by omega
  go_enter Try.func17, Try.ntmps17
  go_wp2
  go_loop [3, 13] (fun n i => ∃ k : Nat, k ≤ bs.length ∧ i = .int .i64 k ∧ n = .int .i64 (ones (bs.take k) : Nat)) (fun _ i => bs.length - (intOf i).toNat)
  case atStart => exact ⟨0, Nat.zero_le _, rfl, rfl⟩
  case round =>
    obtain ⟨k, hk, rfl, rfl⟩ := hrel
    by_cases hlt : k < bs.length
    · have q := hm.at (List.getElem?_eq_getElem hlt)
      have hx : bs[k] < 256 := hb _ (List.getElem_mem hlt)
      have hlt2 : (k : Int) < (bs.length : Int) := by omega
      have HS := Lib.hid (ones_succ bs k hlt)
      obtain ⟨hle2, hle3, hle4⟩ := ones_room bs hb hl k hlt
      go_wp2_with fail
      refine (ones_call _ hx _).mono ?_
      rintro e w' ⟨rfl, rfl⟩
      go_wp2
      go_round
      case rel => exact ⟨k + 1, by omega, by go_num, by rw [HS.out]; go_num⟩
      case measure => simp [intOf]; omega
    · obtain rfl : k = bs.length := by omega
      have ht : bs.take bs.length = bs := List.take_length
      go_wp2
      go_ret
      exact ⟨rfl, rfl⟩

theorem count_nil (w : World) : Calls Try.prog 17 #[.pointer none] w fun e w' => e = .returned (.int .i64 0) ∧ w = w' := by
  go_enter Try.func17, Try.ntmps17
  go_wp2
  go_ret
  exact ⟨rfl, rfl⟩
end Go.Proofs.Ytccokdfkmppohaa

/- Package mask: Add and Keep: two sets cut to one another. -/
namespace Go.Proofs.Ytccokdfkmppohaa
open Go.RowKit

/-- The bytes behind k rounds. -/
def cutK (f : Nat → Nat → Nat) (cs ds : List Nat) (k : Nat) : List Nat := joinB f (cs.take k) (ds.take k) ++ cs.drop k
/-- How many bits k rounds have turned. -/
def turnK (f : Nat → Nat → Nat) (cs ds : List Nat) (k : Nat) : Nat := ones (List.zipWith (fun x y => x ^^^ f x y) (cs.take k) (ds.take k))
theorem cutK_len (f : Nat → Nat → Nat) {cs ds : List Nat} (h : cs.length = ds.length) (k : Nat) : (cutK f cs ds k).length = cs.length := by
  unfold cutK
  rw [List.length_append, joinB_len _ (by simp [h])]
  simp
  omega
theorem cutK_zero (f : Nat → Nat → Nat) (cs ds : List Nat) : cutK f cs ds 0 = cs := by simp [cutK, joinB]
theorem cutK_all (f : Nat → Nat → Nat) {cs ds : List Nat} (h : cs.length = ds.length) : cutK f cs ds cs.length = joinB f cs ds := by
  unfold cutK
  rw [List.take_length, h, List.take_length, ← h, List.drop_length, List.append_nil]
theorem cutK_at (f : Nat → Nat → Nat) {cs ds : List Nat} (h : cs.length = ds.length) (k : Nat) (hk : k < cs.length) : (cutK f cs ds k)[k]? = some cs[k] := by
  unfold cutK
  have hl : (joinB f (cs.take k) (ds.take k)).length = k := by rw [joinB_len _ (by simp [h])]; simp; omega
  rw [List.getElem?_append_right (by omega), hl, Nat.sub_self, List.getElem?_drop]
  simp [hk]
theorem cutK_set (f : Nat → Nat → Nat) {cs ds : List Nat} (h : cs.length = ds.length) (k : Nat) (hk : k < cs.length) : (cutK f cs ds k).set k (f cs[k] (ds[k]'(h ▸ hk))) = cutK f cs ds (k + 1) := by
  have hl : (joinB f (cs.take k) (ds.take k)).length = k := by rw [joinB_len _ (by simp [h])]; simp; omega
  unfold cutK
  rw [List.set_append_right _ _ (by omega), hl, Nat.sub_self, List.drop_eq_getElem_cons hk, List.set_cons_zero]
  rw [List.take_succ_eq_append_getElem hk, List.take_succ_eq_append_getElem (h ▸ hk)]
  unfold joinB
  rw [List.zipWith_append (by simp [h])]
  simp
theorem turnK_zero (f : Nat → Nat → Nat) (cs ds : List Nat) : turnK f cs ds 0 = 0 := by simp [turnK, ones]
theorem turnK_succ (f : Nat → Nat → Nat) {cs ds : List Nat} (h : cs.length = ds.length) (k : Nat) (hk : k < cs.length) : turnK f cs ds (k + 1) = turnK f cs ds k + Lib.onesCount (cs[k] ^^^ f cs[k] (ds[k]'(h ▸ hk))) := by
  unfold turnK
  rw [List.take_succ_eq_append_getElem hk, List.take_succ_eq_append_getElem (h ▸ hk), List.zipWith_append (by simp [h])]
  unfold ones
  rw [List.map_append, List.sum_append]
  simp only [List.zipWith_cons_cons, List.zipWith_nil_right, List.map_cons, List.map_nil, List.sum_cons, List.sum_nil, Nat.add_zero]
theorem turnK_room (f : Nat → Nat → Nat) (hf : ∀ a b, a < 256 → b < 256 → f a b < 256) {cs ds : List Nat} (hc : IsBytes cs) (hd : IsBytes ds) (h : cs.length = ds.length) (hl : cs.length ≤ 65536) (k : Nat) (hk : k < cs.length) :
    (turnK f cs ds k : Int) + (Lib.onesCount (cs[k] ^^^ f cs[k] (ds[k]'(h ▸ hk))) : Int) ≤ 600000 ∧ (0 : Int) ≤ (turnK f cs ds k : Int) ∧ (0 : Int) ≤ (Lib.onesCount (cs[k] ^^^ f cs[k] (ds[k]'(h ▸ hk))) : Int) := by
  have hb : IsBytes (List.zipWith (fun x y => x ^^^ f x y) (cs.take (k + 1)) (ds.take (k + 1))) :=
    joinB_bytes (f := fun x y => x ^^^ f x y) (fun a b ha hb => Nat.xor_lt_two_pow (n := 8) ha (hf a b ha hb)) (hc.take _) (hd.take _)
  have hn : (List.zipWith (fun x y => x ^^^ f x y) (cs.take (k + 1)) (ds.take (k + 1))).length ≤ cs.length := by simp; omega
  exact room_arith _ _ _ (Nat.le_trans (Nat.le_of_eq (turnK_succ f h k hk).symm) (Nat.le_trans (ones_le _ hb) (Nat.mul_le_mul_left 8 hn))) hl


theorem MaskAt.put {W : World} {b h : Nat} {X Y : Int} {bs : List Nat} (m : MaskAt W b h X Y bs) (hne : b ≠ h) (k v : Nat) : MaskAt (W.setCell ⟨h, k, none⟩ (.int .u8 (v : Int))) b h X Y (bs.set k v) := by
  refine ⟨(Below.heap_setCell _ _ _ b (show b ≠ h from hne)).trans (by rw [List.length_set]; exact m.1), ?_⟩
  rw [heap_set_same _ _ _ _ _ _ m.2]
  simp [List.map_set]
theorem MaskAt.apart {W : World} {b h g k : Nat} {X Y : Int} {bs : List Nat} (m : MaskAt W b h X Y bs) (h1 : b ≠ g) (h2 : h ≠ g) (u : Value) : MaskAt (W.setCell ⟨g, k, none⟩ u) b h X Y bs :=
  ⟨(Below.heap_setCell _ _ _ b (show b ≠ g from h1)).trans m.1, (Below.heap_setCell _ _ _ h (show h ≠ g from h2)).trans m.2⟩

end Go.Proofs.Ytccokdfkmppohaa

/- Sets joined and kept: how many bits there are, and the laws of both. -/
namespace Go.Proofs.Ytccokdfkmppohaa
open Go.RowKit

/-! How many bits a byte has, bit by bit -/
def b2n (b : Bool) : Nat := if b then 1 else 0
def bits8 (x : Nat) : Nat := b2n (x.testBit 0) + b2n (x.testBit 1) + b2n (x.testBit 2) + b2n (x.testBit 3) + b2n (x.testBit 4) + b2n (x.testBit 5) + b2n (x.testBit 6) + b2n (x.testBit 7)
theorem ones_bits8 : ∀ n : Fin 256, Lib.onesCount n.val = bits8 n.val := by decide +kernel
theorem ones_b (x : Nat) (h : x < 256) : Lib.onesCount x = bits8 x := ones_bits8 ⟨x, h⟩
theorem b2n_or (a b : Bool) : b2n (a || b) = b2n a + b2n (a ^^ (a || b)) := by cases a <;> cases b <;> rfl
theorem b2n_and (a b : Bool) : b2n (a && b) + b2n (a ^^ (a && b)) = b2n a := by cases a <;> cases b <;> rfl
theorem b2n_sum (a b : Bool) : b2n (a || b) + b2n (a && b) = b2n a + b2n b := by cases a <;> cases b <;> rfl
theorem ones_or (a b : Nat) (ha : a < 256) (hb : b < 256) : Lib.onesCount (a ||| b) = Lib.onesCount a + Lib.onesCount (a ^^^ (a ||| b)) := by
  rw [ones_b _ (or_lt8 a b ha hb), ones_b a ha, ones_b _ (Nat.xor_lt_two_pow (n := 8) ha (or_lt8 a b ha hb))]
  simp only [bits8, Nat.testBit_or, Nat.testBit_xor]
  rw [b2n_or (a.testBit 0), b2n_or (a.testBit 1), b2n_or (a.testBit 2), b2n_or (a.testBit 3), b2n_or (a.testBit 4), b2n_or (a.testBit 5), b2n_or (a.testBit 6), b2n_or (a.testBit 7)]
  omega
theorem ones_and (a b : Nat) (ha : a < 256) (hb : b < 256) : Lib.onesCount (a &&& b) + Lib.onesCount (a ^^^ (a &&& b)) = Lib.onesCount a := by
  rw [ones_b _ (and_lt8 a b ha hb), ones_b a ha, ones_b _ (Nat.xor_lt_two_pow (n := 8) ha (and_lt8 a b ha hb))]
  simp only [bits8, Nat.testBit_and, Nat.testBit_xor]
  rw [← b2n_and (a.testBit 0) (b.testBit 0), ← b2n_and (a.testBit 1) (b.testBit 1), ← b2n_and (a.testBit 2) (b.testBit 2), ← b2n_and (a.testBit 3) (b.testBit 3), ← b2n_and (a.testBit 4) (b.testBit 4), ← b2n_and (a.testBit 5) (b.testBit 5), ← b2n_and (a.testBit 6) (b.testBit 6), ← b2n_and (a.testBit 7) (b.testBit 7)]
  omega
theorem ones_sum (a b : Nat) (ha : a < 256) (hb : b < 256) : Lib.onesCount (a ||| b) + Lib.onesCount (a &&& b) = Lib.onesCount a + Lib.onesCount b := by
  rw [ones_b _ (or_lt8 a b ha hb), ones_b _ (and_lt8 a b ha hb), ones_b a ha, ones_b b hb]
  simp only [bits8, Nat.testBit_and, Nat.testBit_or]
  have e := fun i => b2n_sum (a.testBit i) (b.testBit i)
  have e0 := e 0; have e1 := e 1; have e2 := e 2; have e3 := e 3; have e4 := e 4; have e5 := e 5; have e6 := e 6; have e7 := e 7
  omega

theorem ones_cons (x : Nat) (bs : List Nat) : ones (x :: bs) = Lib.onesCount x + ones bs := by simp [ones]
theorem add3 {a b c d e f : Nat} (h : a = b + c) (k : d = e + f) : a + d = b + e + (c + f) := by omega
theorem join_or : ∀ (cs ds : List Nat), cs.length = ds.length → IsBytes cs → IsBytes ds → ones (joinB (fun a b => a ||| b) cs ds) = ones cs + ones (List.zipWith (fun x y => x ^^^ (x ||| y)) cs ds)
  | [], [], _, _, _ => rfl
  | c :: cs, d :: ds, h, hc, hd => by
    have ih := join_or cs ds (by simpa using h) (fun x hx => hc x (by simp [hx])) (fun x hx => hd x (by simp [hx]))
    have e := ones_or c d (hc c (by simp)) (hd d (by simp))
    unfold joinB at ih ⊢
    rw [List.zipWith_cons_cons, List.zipWith_cons_cons, ones_cons, ones_cons, ones_cons]
    exact add3 e ih
theorem join_and : ∀ (cs ds : List Nat), cs.length = ds.length → IsBytes cs → IsBytes ds → ones cs = ones (joinB (fun a b => a &&& b) cs ds) + ones (List.zipWith (fun x y => x ^^^ (x &&& y)) cs ds)
  | [], [], _, _, _ => rfl
  | c :: cs, d :: ds, h, hc, hd => by
    have ih := join_and cs ds (by simpa using h) (fun x hx => hc x (by simp [hx])) (fun x hx => hd x (by simp [hx]))
    have e := (ones_and c d (hc c (by simp)) (hd d (by simp))).symm
    unfold joinB at ih ⊢
    rw [List.zipWith_cons_cons, List.zipWith_cons_cons, ones_cons, ones_cons, ones_cons]
    exact add3 e ih
theorem add4 {a b c d e f g h : Nat} (p : a + b = c + d) (q : e + f = g + h) : a + e + (b + f) = c + g + (d + h) := by omega
theorem join_sum : ∀ (cs ds : List Nat), cs.length = ds.length → IsBytes cs → IsBytes ds → ones (joinB (fun a b => a ||| b) cs ds) + ones (joinB (fun a b => a &&& b) cs ds) = ones cs + ones ds
  | [], [], _, _, _ => rfl
  | c :: cs, d :: ds, h, hc, hd => by
    have ih := join_sum cs ds (by simpa using h) (fun x hx => hc x (by simp [hx])) (fun x hx => hd x (by simp [hx]))
    have e := ones_sum c d (hc c (by simp)) (hd d (by simp))
    unfold joinB at ih ⊢
    rw [List.zipWith_cons_cons, List.zipWith_cons_cons, ones_cons, ones_cons, ones_cons, ones_cons]
    exact add4 e ih
theorem turnK_full (f : Nat → Nat → Nat) {cs ds : List Nat} (h : cs.length = ds.length) : turnK f cs ds cs.length = ones (List.zipWith (fun x y => x ^^^ f x y) cs ds) := by
  unfold turnK
  rw [List.take_length, h, List.take_length]

/-! The laws -/
theorem jext {cs ds : List Nat} (hl : cs.length = ds.length) (h : ∀ i (h1 : i < cs.length) (h2 : i < ds.length), cs[i] = ds[i]) : cs = ds := List.ext_getElem hl h
theorem or_comm_b {cs ds : List Nat} (h : cs.length = ds.length) : joinB (fun a b => a ||| b) cs ds = joinB (fun a b => a ||| b) ds cs :=
  jext (by simp [joinB, h]) fun i _ _ => by simp only [joinB, List.getElem_zipWith]; exact Nat.or_comm _ _
theorem and_comm_b {cs ds : List Nat} (h : cs.length = ds.length) : joinB (fun a b => a &&& b) cs ds = joinB (fun a b => a &&& b) ds cs :=
  jext (by simp [joinB, h]) fun i _ _ => by simp only [joinB, List.getElem_zipWith]; exact Nat.and_comm _ _
theorem or_assoc_b (cs ds es : List Nat) : joinB (fun a b => a ||| b) (joinB (fun a b => a ||| b) cs ds) es = joinB (fun a b => a ||| b) cs (joinB (fun a b => a ||| b) ds es) :=
  jext (by simp [joinB, Nat.min_assoc]) fun i _ _ => by simp [joinB, Nat.or_assoc]
theorem and_assoc_b (cs ds es : List Nat) : joinB (fun a b => a &&& b) (joinB (fun a b => a &&& b) cs ds) es = joinB (fun a b => a &&& b) cs (joinB (fun a b => a &&& b) ds es) :=
  jext (by simp [joinB, Nat.min_assoc]) fun i _ _ => by simp [joinB, Nat.and_assoc]
theorem and_or_b (cs ds es : List Nat) (_ : cs.length = ds.length) (_ : cs.length = es.length) : joinB (fun a b => a &&& b) cs (joinB (fun a b => a ||| b) ds es) = joinB (fun a b => a ||| b) (joinB (fun a b => a &&& b) cs ds) (joinB (fun a b => a &&& b) cs es) :=
  jext (by simp [joinB]; omega) fun i _ _ => by simp [joinB, Nat.and_or_distrib_left]
theorem absorb_b {cs ds : List Nat} (h : cs.length = ds.length) : joinB (fun a b => a ||| b) cs (joinB (fun a b => a &&& b) cs ds) = cs :=
  jext (by simp [joinB, h]) fun i _ _ => by
    simp only [joinB, List.getElem_zipWith]
    apply Nat.eq_of_testBit_eq
    intro j
    rw [Nat.testBit_or, Nat.testBit_and]
    cases cs[i].testBit j <;> rfl
theorem Good.or {X Y : Int} {cs ds : List Nat} (gc : Good X Y cs) (gd : Good X Y ds) : Good X Y (joinB (fun a b => a ||| b) cs ds) := by
  have hl : cs.length = ds.length := by have := gc.2.1; have := gd.2.1; omega
  exact ⟨gc.1, by rw [joinB_len _ hl]; exact gc.2.1, joinB_bytes or_lt8 gc.2.2.1 gd.2.2.1, fun i hi => by rw [bitAt_or hl, gc.2.2.2 i hi, gd.2.2.2 i hi]; rfl⟩
theorem Good.and {X Y : Int} {cs ds : List Nat} (gc : Good X Y cs) (gd : Good X Y ds) : Good X Y (joinB (fun a b => a &&& b) cs ds) := by
  have hl : cs.length = ds.length := by have := gc.2.1; have := gd.2.1; omega
  exact ⟨gc.1, by rw [joinB_len _ hl]; exact gc.2.1, joinB_bytes and_lt8 gc.2.2.1 gd.2.2.1, fun i hi => by rw [bitAt_and hl, gc.2.2.2 i hi, gd.2.2.2 i hi]; rfl⟩
theorem Good.len {X Y : Int} {cs ds : List Nat} (gc : Good X Y cs) (gd : Good X Y ds) : cs.length = ds.length := by have := gc.2.1; have := gd.2.1; omega
end Go.Proofs.Ytccokdfkmppohaa

/- The numbers of a set's cells: the mathematics. -/
namespace Go.Proofs.Ytccokdfkmppohaa
open Go.RowKit

/-- The bits of a byte, the lowest first. -/
def bl (x : Nat) : List Nat := (List.range 8).filter (fun i => x.testBit i)
theorem bl_zero : bl 0 = [] := by decide
theorem bl_steps : ∀ n : Fin 256, n.val = 0 ∨ (bl n.val = Lib.trailingZeros8 n.val :: bl (n.val &&& (n.val - 1)) ∧ (n.val &&& (n.val - 1)) < n.val ∧ Lib.trailingZeros8 n.val < 8) := by decide +kernel
theorem bl_step (x : Nat) (h : x < 256) (h0 : x ≠ 0) : bl x = Lib.trailingZeros8 x :: bl (x &&& (x - 1)) ∧ (x &&& (x - 1)) < x ∧ Lib.trailingZeros8 x < 8 := by
  rcases bl_steps ⟨x, h⟩ with h1 | h1
  · exact absurd h1 h0
  · exact h1
/-- The numbers that the first k bytes tell. -/
def numOf (k i : Nat) : Int := (k : Int) * 8 + (i : Int)
def numsTo (bs : List Nat) (k : Nat) : List Int := (List.range k).flatMap (fun j => (bl (bs.getD j 0)).map (numOf j))
theorem numsTo_zero (bs : List Nat) : numsTo bs 0 = [] := rfl
theorem numsTo_succ (bs : List Nat) (k : Nat) : numsTo bs (k + 1) = numsTo bs k ++ (bl (bs.getD k 0)).map (numOf k) := by simp [numsTo, List.range_succ, List.flatMap_append]
theorem numsTo_prefix (bs : List Nat) {k m : Nat} (h : k ≤ m) : numsTo bs k <+: numsTo bs m := by
  induction m with
  | zero => obtain rfl : k = 0 := by omega
            exact List.prefix_refl _
  | succ m ih =>
    by_cases hk : k ≤ m
    · exact (ih hk).trans ⟨_, (numsTo_succ bs m).symm⟩
    · obtain rfl : k = m + 1 := by omega
      exact List.prefix_refl _
def numsOf (bs : List Nat) : List Int := numsTo bs bs.length
theorem part_prefix (bs : List Nat) (k : Nat) (hk : k < bs.length) (d r : List Nat) (h : bl (bs.getD k 0) = d ++ r) : numsTo bs k ++ d.map (numOf k) <+: numsOf bs := by
  have h1 : numsTo bs k ++ d.map (numOf k) <+: numsTo bs (k + 1) := by
    rw [numsTo_succ, h, List.map_append, ← List.append_assoc]
    exact ⟨_, rfl⟩
  exact h1.trans (numsTo_prefix bs hk)
theorem part_lt (bs : List Nat) (k : Nat) (hk : k < bs.length) (d r : List Nat) (z : Nat) (h : bl (bs.getD k 0) = d ++ z :: r) : (numsTo bs k ++ d.map (numOf k)).length < (numsOf bs).length := by
  have h1 := (part_prefix bs k hk (d ++ [z]) r (by rw [h]; simp)).length_le
  simp at h1 ⊢
  omega
theorem tz_call (x : Nat) (hx : x < 256) (w : World) : Calls Try.prog 42 #[.int .u8 (x : Int)] w fun e w' => e = .returned (.int .i64 (Lib.trailingZeros8 x : Nat)) ∧ w = w' := by
  refine (Try.bits_TrailingZeros8 (x : Int) w (by omega) (by omega)).mono ?_
  rintro e w' ⟨rfl, rfl⟩
  exact ⟨rfl, rfl⟩
end Go.Proofs.Ytccokdfkmppohaa

/- The numbers of a set's cells, as an iterator: its contract. -/
namespace Go.Proofs.Ytccokdfkmppohaa
open Go.RowKit Go.Shelf
attribute [local go_sem] Oper.semAt_some

/-- Three blocks lie as they lay: a pointer's box, a set, its bytes. -/
def Keep3 (p b h : Nat) (A B : World) : Prop := B.heap[p]? = A.heap[p]? ∧ B.heap[b]? = A.heap[b]? ∧ B.heap[h]? = A.heap[h]?
theorem Keep3.refl (p b h : Nat) (A : World) : Keep3 p b h A A := ⟨rfl, rfl, rfl⟩
theorem Keep3.trans {p b h : Nat} {A B C : World} (x : Keep3 p b h A B) (y : Keep3 p b h B C) : Keep3 p b h A C := ⟨y.1.trans x.1, y.2.1.trans x.2.1, y.2.2.trans x.2.2⟩
/-- A pointer to a set in a box of its own. -/
def SetAt (W : World) (p b h : Nat) (X Y : Int) (bs : List Nat) : Prop := W.cell? ⟨p, 0, none⟩ = some (.pointer (some ⟨b, 0, none⟩)) ∧ MaskAt W b h X Y bs
theorem SetAt.kept {W W' : World} {p b h : Nat} {X Y : Int} {bs : List Nat} (s : SetAt W p b h X Y bs) (k : Keep3 p b h W W') : SetAt W' p b h X Y bs :=
  ⟨(World.cell?_of_block (a := ⟨p, 0, none⟩) k.1).trans s.1, k.2.1.trans s.2.1, k.2.2.trans s.2.2⟩

set_option maxRecDepth 100000 in
set_option maxHeartbeats 4000000 in
theorem nums1_in (n l p b h : Nat) (X Y : Int) (bs : List Nat) (J Jx : List Int → World → Prop) (W : World) (hbs : IsBytes bs) (hl : bs.length ≤ 65536)
    (hY : ∀ pre x W1, J pre W1 → pre.length < (numsOf bs).length → YieldAt Fence.wide (n - 1) Try.prog l #[.int .i64 x] W1 fun e W' =>
      (e = .returned (.bool true) ∧ J (pre ++ [x]) W' ∧ Keep3 p b h W1 W') ∨ (e = .returned (.bool false) ∧ Jx (pre ++ [x]) W'))
    (hs : SetAt W p b h X Y bs) (h0 : J [] W) :
    CallsIn Fence.wide n Try.prog 41 #[.func (.yield l) #[] #[], .pointer (some ⟨p, 0, none⟩)] W fun e W' => (∃ v, e = .returned v) ∧
      (J (numsOf bs) W' ∨ ∃ q, q <+: numsOf bs ∧ Jx q W') := by
  have c0 := hs.1
  have c2 := hs.2.c2
  have hl2 : (bs.length : Int) ≤ 65536 := by omega
  refine callsIn_of_wp Try.func41 rfl trivial ?_ rfl
  simp only [Try.ntmps41, List.size_toArray, List.length_cons, List.length_nil, Nat.reduceAdd, Nat.reduceSub, Array.replicate_succ, Array.replicate_zero, List.push_toArray, List.append_toArray, List.nil_append, List.cons_append]
  gi_wp2
  gi_loopw [12] (fun i wr => ∃ k : Nat, k ≤ bs.length ∧ i = .int .i64 k ∧ J (numsTo bs k) wr ∧ SetAt wr p b h X Y bs) (fun i _ => bs.length - (intOf i).toNat)
  case atStart => exact ⟨0, Nat.zero_le _, rfl, h0, hs⟩
  case round =>
    obtain ⟨k, hk, rfl, hJ, hsr⟩ := hrel
    clear c0 c2
    by_cases hlt : k < bs.length
    · have hlt2 : (k : Int) < (bs.length : Int) := by omega
      have hk0 : (0 : Int) ≤ (k : Int) := by omega
      have q := hsr.2.at (List.getElem?_eq_getElem hlt)
      have hx : bs[k] < 256 := hbs _ (List.getElem_mem hlt)
      have hgd : bs.getD k 0 = bs[k] := by simp [List.getD_eq_getElem?_getD, hlt]
      have HG := Lib.hid hgd
      clear hgd
      gi_wp2
      gi_loopw [4] (fun v wx => ∃ d c, bl (bs.getD k 0) = d ++ bl c ∧ c < 256 ∧ v = .int .u8 (c : Nat) ∧ J (numsTo bs k ++ d.map (numOf k)) wx ∧ SetAt wx p b h X Y bs) (fun v _ => (intOf v).toNat)
      case atStart => exact ⟨[], bs[k], by rw [HG.out]; rfl, hx, rfl, by rw [List.map_nil, List.append_nil]; exact hJ, hsr⟩
      case round =>
        obtain ⟨d, c, hdc, hc, rfl, hJd, hsx⟩ := hrel
        clear hJ hsr q
        by_cases hc0 : c = 0
        · subst hc0
          gi_wp2
          go_roundw
          case rel => exact ⟨k + 1, by omega, by go_num, by rw [numsTo_succ, hdc, bl_zero, List.append_nil]; exact hJd, hsx⟩
          case measure => simp [intOf]; omega
        · have hc1 : (c : Int) ≠ 0 := by omega
          obtain ⟨s1, s2, s3⟩ := bl_step c hc hc0
          have hlen := part_lt bs k hlt d _ _ (hdc.trans (congrArg (d ++ ·) s1))
          have hdc2 : bl (bs.getD k 0) = (d ++ [Lib.trailingZeros8 c]) ++ bl (c &&& (c - 1)) := by rw [hdc, s1]; simp
          have hm2 : numsTo bs k ++ d.map (numOf k) ++ [numOf k (Lib.trailingZeros8 c)] = numsTo bs k ++ (d ++ [Lib.trailingZeros8 c]).map (numOf k) := by simp
          have hpre := part_prefix bs k hlt _ _ hdc2
          rw [← hm2] at hpre
          have hb1 : (c : Int) - 1 = ((c - 1 : Nat) : Int) := by omega
          have hband := u8_and c (c - 1) hc (by omega)
          have H8 := Lib.hid hband
          clear hband
          obtain ⟨fn, tmps, assign, body, hy, hR⟩ := hY _ (numOf k (Lib.trailingZeros8 c)) wr hJd hlen
          have s3' : ((Lib.trailingZeros8 c : Nat) : Int) < 8 := by omega
          have s4' : (0 : Int) ≤ ((Lib.trailingZeros8 c : Nat) : Int) := Int.natCast_nonneg _
          have hc2 : (1 : Int) ≤ (c : Int) := by omega
          have hc3 : (c : Int) < 256 := by omega
          generalize ht : Lib.trailingZeros8 c = t at *
          unfold numOf at hy
          have H1 := Lib.hid hdc
          have H2 := Lib.hid hdc2
          have H3 := Lib.hid hm2
          have H4 := Lib.hid hpre
          have H5 := Lib.hid hlen
          have H6 := Lib.hid s1
          have H7 := Lib.hid s2
          clear hdc hdc2 hm2 hpre hlen s1 s2
          gi_wp2_with fail
          refine ⟨trivial, (fun h => by cases h), ?_⟩
          refine (callsIn_wide.2 (tz_call c hc _)).mono ?_
          rintro e W1 ⟨rfl, rfl⟩
          rw [ht]
          gi_wp2
          refine ⟨(fun h => by cases h), hR.mono ?_⟩
          rintro e W3 (⟨rfl, hJ3, hk3⟩ | ⟨rfl, hJx3⟩)
          · gi_wp2
            go_roundw
            case rel => exact ⟨_, _, H2.out, Nat.lt_of_lt_of_le H7.out (by omega), by rw [H8.out], by rw [← H3.out]; exact hJ3, hsx.kept hk3⟩
            case measure =>
              rw [H8.out]
              show (((c &&& (c - 1) : Nat) : Int)).toNat < ((c : Nat) : Int).toNat
              rw [Int.toNat_natCast, Int.toNat_natCast]
              exact H7.out
          · gi_wp2
            refine bodyPost_ret (results_none rfl _ _ _) rfl ?_
            exact ⟨⟨_, rfl⟩, .inr ⟨_, H4.out, hJx3⟩⟩
    · obtain rfl : k = bs.length := by omega
      gi_wp2
      go_end0
      exact ⟨⟨_, rfl⟩, .inl hJ⟩
end Go.Proofs.Ytccokdfkmppohaa

/- Package geom: the contract of At outside a map, and anywhere. -/
namespace Go.Proofs.Ytccokdfkmppohaa
open Go.RowKit

set_option maxHeartbeats 400000 in
theorem at_no (W H i : Int) (w : World) (hi : atB W H i = false) :
    Calls Try.prog 34 #[.agg #[.int .i64 W, .int .i64 H], .int .i64 i] w fun e w' => e = .returned (.tuple #[.agg #[.int .i64 0, .int .i64 0], .int .i64 10]) ∧ Below w.heap.size w w' := by
  have hi' : ¬ (1 ≤ W ∧ W ≤ 256 ∧ 1 ≤ H ∧ H ≤ 256 ∧ 0 ≤ i ∧ i < W * H) := by simpa [atB] using hi
  cases hm : mayB W H
  · go_enter Try.func34, Try.ntmps34
    go_wp2_with (go_at_call 25; refine (may_any _ _ _).mono ?_; rintro e w' ⟨rfl, hb⟩; obtain ⟨hc, hf⟩ := bcell hb)
    have q0 : w'.cell? ⟨w.heap.size + 1, 0, none⟩ = some (.int .i64 0) := (hc _ _ (by simp)).trans (by simp [go_sem])
    have q1 : w'.cell? ⟨w.heap.size + 1, 1, none⟩ = some (.int .i64 0) := (hc _ _ (by simp)).trans (by simp [go_sem])
    clear hc hf
    refine bodyPost_ret (v := .tuple #[.agg #[.int .i64 0, .int .i64 0], .int .i64 10]) (by simp [results, Try.results34, go_sem, q0, q1]) rfl ⟨rfl, ?_⟩
    exact bl_st (bl_st (bl_tr (bl_al (bl_al (bl0 _) _) _) hb) (by omega) _) (by omega) _
  · obtain ⟨h1, h2, h3, h4⟩ := mayB_iff.1 hm
    obtain ⟨m1, m2⟩ : 0 ≤ W * H ∧ W * H ≤ 65536 := ⟨Int.mul_nonneg (by omega) (by omega), by have a : W * H ≤ 256 * H := Int.mul_le_mul_of_nonneg_right h2 (by omega); omega⟩
    have hj : i < 0 ∨ W * H ≤ i := by omega
    clear hi'
    by_cases hl : i < 0
    all_goals
      go_enter Try.func34, Try.ntmps34
      go_wp2_with (go_at_call 25; refine (may_any _ _ _).mono ?_; rintro e w' ⟨rfl, hb⟩; obtain ⟨hc, hf⟩ := bcell hb)
      have q0 : w'.cell? ⟨w.heap.size + 1, 0, none⟩ = some (.int .i64 0) := (hc _ _ (by simp)).trans (by simp [go_sem])
      have q1 : w'.cell? ⟨w.heap.size + 1, 1, none⟩ = some (.int .i64 0) := (hc _ _ (by simp)).trans (by simp [go_sem])
      clear hc hf
      refine bodyPost_ret (v := .tuple #[.agg #[.int .i64 0, .int .i64 0], .int .i64 10]) (by simp [results, Try.results34, go_sem, q0, q1]) rfl ⟨rfl, ?_⟩
      exact bl_st (bl_st (bl_tr (bl_al (bl_al (bl0 _) _) _) hb) (by omega) _) (by omega) _

/-- The cell that At answers. -/
def cellAt (X Y i : Int) : Int × Int := if atB X Y i = true then (i % X, i / X) else (0, 0)
theorem at_any (X Y i : Int) (w : World) : Calls Try.prog 34 #[.agg #[.int .i64 X, .int .i64 Y], .int .i64 i] w fun e w' =>
    ∃ r : Int, e = .returned (.tuple #[.agg #[.int .i64 (cellAt X Y i).1, .int .i64 (cellAt X Y i).2], .int .i64 r]) ∧ Below w.heap.size w w' := by
  cases h : atB X Y i
  · refine (at_no X Y i w h).mono ?_
    rintro e w' ⟨rfl, hb⟩
    exact ⟨10, by simp [cellAt, h], hb⟩
  · refine (at_yes X Y i w h).mono ?_
    rintro e w' ⟨rfl, hb⟩
    exact ⟨0, by simp [cellAt, h], hb⟩
end Go.Proofs.Ytccokdfkmppohaa

/- The cells of a set, as an iterator: its contract, for whoever keeps what the iterator laid. -/
namespace Go.Proofs.Ytccokdfkmppohaa
open Go.RowKit Go.Shelf
attribute [local go_sem] Oper.semAt_some

set_option maxHeartbeats 1000000 in
theorem numbers_in (n : Nat) (v : Option Addr) (w : World) :
    CallsIn Fence.wide n Try.prog 39 #[.pointer v] w fun e w' => e = .returned (.func (.func 41) #[] #[.pointer (some ⟨w.heap.size, 0, none⟩)]) ∧ w' = w.alloc (.cells #[.pointer v] 41) := by
  refine callsIn_of_wp Try.func39 rfl trivial ?_ rfl
  simp only [Try.ntmps39, List.size_toArray, List.length_cons, List.length_nil, Nat.reduceAdd, Nat.reduceSub, Array.replicate_succ, Array.replicate_zero, List.push_toArray, List.append_toArray, List.nil_append, List.cons_append]
  gi_wp2
  go_ret
  exact ⟨rfl, rfl⟩
set_option maxHeartbeats 1000000 in
theorem mcells_in (n : Nat) (v : Option Addr) (w : World) :
    CallsIn Fence.wide n Try.prog 31 #[.pointer v] w fun e w' => e = .returned (.func (.func 38) #[] #[.pointer (some ⟨w.heap.size, 0, none⟩)]) ∧ w' = w.alloc (.cells #[.pointer v] 41) := by
  refine callsIn_of_wp Try.func31 rfl trivial ?_ rfl
  simp only [Try.ntmps31, List.size_toArray, List.length_cons, List.length_nil, Nat.reduceAdd, Nat.reduceSub, Array.replicate_succ, Array.replicate_zero, List.push_toArray, List.append_toArray, List.nil_append, List.cons_append]
  gi_wp2
  go_ret
  exact ⟨rfl, rfl⟩

theorem SetAt.below {W W' : World} {p b h : Nat} {X Y : Int} {bs : List Nat} (s : SetAt W p b h X Y bs) (hb : Below W.heap.size W W') : SetAt W' p b h X Y bs := ⟨cell_later hb s.1, s.2.below hb⟩
theorem SetAt.lt {W : World} {p b h : Nat} {X Y : Int} {bs : List Nat} (s : SetAt W p b h X Y bs) : p < W.heap.size ∧ b < W.heap.size ∧ h < W.heap.size := ⟨blk_lt s.1, s.2.lt.1, s.2.lt.2⟩
theorem setAt_own {α : Type} (p b h : Nat) (X Y : Int) (bs : List Nat) : Own (fun (_ : α) W => SetAt W p b h X Y bs) := fun _ W W' row hs hg hr =>
  ⟨cell_kept hs.1 hg hr, hs.2.kept hg (fun e => by obtain ⟨o, h1, h2⟩ := hr _ e.symm; rw [hs.2.1] at h1; cases h1; simp [Obj.isCells] at h2) (fun e => by obtain ⟨o, h1, h2⟩ := hr _ e.symm; rw [hs.2.2] at h1; cases h1; simp [Obj.isCells] at h2)⟩

/-- **The numbers of a set hand back a value that 'SeqStopsK'**. -/
theorem nums_stops (n p b h : Nat) (X Y : Int) (bs : List Nat) (hbs : IsBytes bs) (hl : bs.length ≤ 65536) (w : World) (hs : SetAt w p b h X Y bs) :
    SeqStopsK Fence.wide n Try.prog 41 #[.pointer (some ⟨p, 0, none⟩)] (fun x : Int => #[Value.int .i64 x]) (Keep3 p b h) (fun ys => ys = numsOf bs) (fun pre => pre <+: numsOf bs) (numsOf bs).length w := fun l J Jx W hW _ _ hY h0 => by
  refine (nums1_in n l p b h X Y bs J Jx W hbs hl hY ((hs.below hW)) h0).mono ?_
  rintro e W' ⟨he, hj | ⟨q, hq, hj⟩⟩
  · exact ⟨he, .inl ⟨_, rfl, hj⟩⟩
  · exact ⟨he, .inr ⟨_, hq, hj⟩⟩

/-- Three blocks, and c blocks from n on, lie as they lay, and whatever from n on is no cells. -/
def KeptM (p b h n c : Nat) (A B : World) : Prop := A.heap.size ≤ B.heap.size ∧ (∀ k, (k = p ∨ k = b ∨ k = h ∨ (n ≤ k ∧ k < n + c)) → k < A.heap.size → B.heap[k]? = A.heap[k]?) ∧ (∀ (k : Nat) (o : Obj), n ≤ k → A.heap[k]? = some o → o.isCells = false → B.heap[k]? = some o)
theorem KeptM.refl (p b h n c : Nat) (A : World) : KeptM p b h n c A A := ⟨Nat.le_refl _, fun _ _ _ => rfl, fun _ _ _ ho _ => ho⟩
theorem KeptM.trans {p b h n c : Nat} {A B C : World} (x : KeptM p b h n c A B) (k : KeptM p b h n c B C) : KeptM p b h n c A C :=
  ⟨Nat.le_trans x.1 k.1, fun i hi hl => (k.2.1 i hi (Nat.lt_of_lt_of_le hl x.1)).trans (x.2.1 i hi hl), fun i o hi ho hc => k.2.2 i o hi (x.2.2 i o hi ho hc) hc⟩
theorem KeptM.from {p b h n c B : Nat} {A C : World} (x : KeptM p b h n c A C) (hB : n ≤ B) : KeepsFrom B A C :=
  ⟨x.1, fun k o hk ho hc => x.2.2 k o (by omega) ho hc⟩
theorem KeptM.of_below {p b h n c : Nat} {A B : World} (hb : Below A.heap.size A B) : KeptM p b h n c A B := ⟨hb.size, fun k _ hl => hb.block k hl, fun k _ _ ho _ => (hb.block k (Array.getElem?_eq_some_iff.1 ho).1).trans ho⟩
theorem KeptM.set {p b h n c : Nat} {A B : World} {X Y : Int} {bs : List Nat} (x : KeptM p b h n c A B) (s : SetAt A p b h X Y bs) : SetAt B p b h X Y bs :=
  s.kept ⟨x.2.1 p (.inl rfl) s.lt.1, x.2.1 b (.inr (.inl rfl)) s.lt.2.1, x.2.1 h (.inr (.inr (.inl rfl))) s.lt.2.2⟩
theorem KeptM.cell {p b h n c k o : Nat} {A B : World} {v : Value} (x : KeptM p b h n c A B) (hk : n ≤ k) (hk2 : k < n + c) (q : A.cell? ⟨k, o, none⟩ = some v) : B.cell? ⟨k, o, none⟩ = some v :=
  (World.cell?_of_block (a := ⟨k, o, none⟩) (x.2.1 k (.inr (.inr (.inr ⟨hk, hk2⟩))) (blk_lt q))).trans q

theorem mYieldAt_any {m : Nat} (m' : Nat) {P : Program} {l : Nat} {args : Array Value} {W : World} {R : Ending → World → Prop} (x : YieldAt Fence.wide m P l args W R) : YieldAt Fence.wide m' P l args W R := by
  obtain ⟨fn, tmps, assign, body, hy, hR⟩ := x
  exact ⟨fn, tmps, assign, body, hy, ⟨hR.1, fun c cs _ => hR.2 c cs (room_wide _)⟩⟩
theorem mRoundIn_in {F : Fence} (l' : Nat) {m : Nat} {P : Program} {l : Nat} {f : FuncId} {tmps : Array Value} {assign body : Code} {w : World} {R : Ending → World → Prop}
    (x : RoundIn F m P l f tmps assign body w R) : RoundIn (F.inRound l') m P l f tmps assign body w R := x

set_option maxRecDepth 100000 in
set_option maxHeartbeats 4000000 in
theorem mcells1_in (l p b h : Nat) (X Y : Int) (bs : List Nat) (hbs : IsBytes bs) (hl : bs.length ≤ 65536) (J Jx : List (Int × Int) → World → Prop) (W : World) (hJ : OwnFrom W.heap.size J) (hJx : OwnFrom W.heap.size Jx)
    (hY : ∀ pre c W1, J pre W1 → W.heap.size + 2 ≤ W1.heap.size → pre.length < (numsOf bs).length → (∃ i, c = cellAt X Y i) → YieldAt Fence.wide 0 Try.prog l #[.agg #[.int .i64 c.1, .int .i64 c.2]] W1 fun e W' =>
      (e = .returned (.bool true) ∧ J (pre ++ [c]) W' ∧ KeptM p b h W.heap.size 2 W1 W') ∨ (e = .returned (.bool false) ∧ Jx (pre ++ [c]) W' ∧ KeptM p b h W.heap.size 2 W1 W'))
    (hs : SetAt W p b h X Y bs) (h0 : J [] W) :
    CallsIn Fence.wide 10 Try.prog 38 #[.func (.yield l) #[] #[], .pointer (some ⟨p, 0, none⟩)] W fun e W' => (∃ v, e = .returned v) ∧
      (J ((numsOf bs).map (cellAt X Y)) W' ∨ ∃ q, q <+: (numsOf bs).map (cellAt X Y) ∧ Jx q W') := by
  obtain ⟨hlp, hlb, hlh⟩ := hs.lt
  have s0 := hs.1
  refine callsIn_of_wp_marks Try.func38 rfl trivial ?_ rfl
  simp only [Try.ntmps38, List.size_toArray, List.length_cons, List.length_nil, Nat.reduceAdd, Nat.reduceSub, Array.replicate_succ, Array.replicate_zero, List.push_toArray, List.append_toArray, List.nil_append, List.cons_append]
  gi_wp2_with fail
  refine ⟨trivial, (numbers_in _ _ _).mono ?_⟩
  rintro e w1 ⟨rfl, rfl⟩
  gi_wp2_with fail
  obtain ⟨W0, hW0⟩ : ∃ W0, (W.alloc (.cells #[.func (.yield l) #[] #[]] 60)).alloc (.cells #[.pointer (some ⟨b, 0, none⟩)] 41) = W0 := ⟨_, rfl⟩
  have hz : W0.heap.size = W.heap.size + 2 := by rw [← hW0]; simp
  have hk0 : Below W.heap.size W W0 := by rw [← hW0]; exact bl_al (bl_al (bl0 _) _) _
  have y0 : W0.cell? ⟨W.heap.size, 0, none⟩ = some (.func (.yield l) #[] #[]) := by rw [← hW0]; simp [go_sem]
  have hs0 : SetAt W0 p b h X Y bs := hs.below hk0
  have hR : SetAt W0 (W.heap.size + 1) b h X Y bs := ⟨by rw [← hW0]; simp [go_sem], hs0.2⟩
  have hJ0 : J [] W0 := hJ [] W W0 none h0 (grown_of_below hk0) (fun r e => by cases e)
  rw [hW0]
  clear hW0
  refine wpIn_rangeFunc_ownG rfl (by decide) (gf := 41) (lb := #[.pointer (some ⟨W.heap.size + 1, 0, none⟩)]) rfl trivial (enters_of Try.func41 (by kernel_rfl) rfl)
    (nums_stops _ (W.heap.size + 1) b h X Y bs hbs hl W0 hR) (fun x k => x.trans k) (fun W' l' o o' hl ho hc _ => ?_) (Below.refl _ _) (fun _ => rfl)
    (fun pre W' => (J (pre.map (cellAt X Y)) W' ∧ SetAt W' p b h X Y bs) ∧ W'.cell? ⟨W.heap.size, 0, none⟩ = some (.func (.yield l) #[] #[]) ∧ SetAt W' (W.heap.size + 1) b h X Y bs)
    (fun c pre W' => c = .ret ∧ Jx (pre.map (cellAt X Y)) W')
    (fun s A B row hs hg hr => ⟨⟨hJ _ A B row hs.1.1 hg (fun r e => by obtain ⟨h1, h2⟩ := hr r e; exact ⟨by omega, h2⟩), setAt_own p b h X Y bs s A B row hs.1.2 hg (fun r e => (hr r e).2)⟩, cell_kept hs.2.1 hg (fun r e => (hr r e).2), setAt_own _ b h X Y bs s A B row hs.2.2 hg (fun r e => (hr r e).2)⟩)
    (fun c s A B row hs hg hr => ⟨hs.1, hJx _ A B row hs.2 hg (fun r e => by obtain ⟨h1, h2⟩ := hr r e; exact ⟨by omega, h2⟩)⟩)
    ⟨⟨hJ0, hs0⟩, y0, hR⟩
    (fun x => { tmps := #[.func (.yield l) #[] #[], .pointer (some ⟨p, 0, none⟩), .pointer (some ⟨W.heap.size, 0, none⟩), .int .i64 x, undef, undef, .pointer (some ⟨b, 0, none⟩), .func (.func 41) #[] #[.pointer (some ⟨W.heap.size + 1, 0, none⟩)], .int .i64 x, undef, undef, undef, undef, undef, undef, undef, undef, undef, undef, undef, undef, undef], defers := [] })
    ?assign ?body ?done ?stop
  · exact ⟨World.putObj_heap_other (by omega), World.putObj_heap_other (by omega), World.putObj_heap_other (by omega)⟩
  case assign =>
    intro l' x W' K hK
    gi_wp2
    exact hK
  case body =>
    rintro l' pre x W' ⟨⟨hj, hsp⟩, y1, hrow⟩ hlen
    have c0 := hsp.2.c0
    have c1 := hsp.2.c1
    have c2 := hsp.1
    clear s0 y0
    gi_wp2_with fail
    refine ⟨trivial, (CallsIn.inRound l' (callsIn_wide.2 (at_any _ _ _ _))).mono ?_⟩
    rintro e W2 ⟨r, rfl, hb2⟩
    have hk2 : KeptM p b h W.heap.size 2 W' W2 := KeptM.of_below hb2
    have hj2 : J (pre.map (cellAt X Y)) W2 := hJ _ W' W2 none hj (grown_of_below hb2) (fun r e => by cases e)
    have hrl := hrow.lt
    replace hsp := hsp.below hb2
    replace hrow := hrow.below hb2
    replace y1 := cell_later hb2 y1
    have hyl := blk_lt y1
    have hyl2 : W.heap.size < W2.heap.size + 1 := by omega
    have hx3 : cellAt X Y x = cellAt X Y x := rfl
    clear hj c0 c1 c2
    have hk3 : Below W2.heap.size W2 (W2.alloc (.cells #[.int .i64 (cellAt X Y x).1, .int .i64 (cellAt X Y x).2] 26)) := bl_al (bl0 _) _
    obtain ⟨fn, tmps, assign, body, hy, hR⟩ := mYieldAt_any 7 (hY _ (cellAt X Y x) (W2.alloc (.cells #[.int .i64 (cellAt X Y x).1, .int .i64 (cellAt X Y x).2] 26)) (hJ _ W2 _ none hj2 (grown_of_below hk3) (fun r e => by cases e)) (by rw [World.size_alloc]; have := hrl.1; omega) (by rw [List.length_map]; exact hlen) ⟨x, rfl⟩)
    have hsp3 := hsp.below hk3
    have hrow3 := hrow.below hk3
    have y3 := cell_later hk3 y1
    have hk4 : KeptM p b h W.heap.size 2 W' (W2.alloc (.cells #[.int .i64 (cellAt X Y x).1, .int .i64 (cellAt X Y x).2] 26)) := hk2.trans (KeptM.of_below hk3)
    have hm : pre.map (cellAt X Y) ++ [cellAt X Y x] = (pre ++ [x]).map (cellAt X Y) := by simp
    rw [hm] at hR
    clear hm hx3
    have H1 := Lib.hid hsp3
    have H2 := Lib.hid hrow3
    have H3 := Lib.hid hk4
    have H4 := Lib.hid y3
    clear hsp3 hrow3 hk4 y3 hk3 hk2 hj2 hsp hrow
    generalize cellAt X Y x = cx at *
    gi_wp2
    refine (mRoundIn_in l' hR).mono ?_
    rintro e W3 (⟨rfl, hJ3, hk5⟩ | ⟨rfl, hJx3, hk5⟩)
    · have hsp4 := hk5.set H1.out
      have y4 := hk5.cell (Nat.le_refl _) (by omega) H4.out
      have q4 := hk5.cell (by omega) (by omega) H2.out.1
      have hk6 := H3.out.trans hk5
      clear H1 H2 H3 H4 y1
      gi_wp2
      exact ⟨hk6.from (by omega), ⟨hk6.2.1 _ (.inr (.inr (.inr ⟨by omega, by omega⟩))) hrl.1, hk6.2.1 _ (.inr (.inl rfl)) hrl.2.1, hk6.2.1 _ (.inr (.inr (.inl rfl))) hrl.2.2⟩, ⟨hJ3, hsp4⟩, y4, q4, hsp4.2⟩
    · have hk6 := H3.out.trans hk5
      clear H1 H2 H3 H4 y1
      gi_wp2
      exact ⟨hk6.from (by omega), rfl, hJx3⟩
  case done =>
    rintro D ys W' hD rfl ⟨⟨hj, _⟩, _⟩ hK
    gi_wp2
    refine ⟨by simp, .inl ⟨_, _, rfl, run_takeDeferred hK, ?_⟩⟩
    exact ⟨_, results_none rfl _ _ _, ⟨_, rfl⟩, .inl (hJ _ W' _ _ hj (grownBy_putObj' W' D (.deferred none)) (fun r e => by cases e; exact ⟨by omega, _, hK, rfl⟩))⟩
  case stop =>
    rintro D c pre W' hD hpre ⟨rfl, hx⟩ hK
    gi_wp2
    refine ⟨by simp, .inl ⟨_, _, rfl, run_takeDeferred hK, ?_⟩⟩
    exact ⟨_, results_none rfl _ _ _, ⟨_, rfl⟩, .inr ⟨_, hpre.map _, hJx _ W' _ _ hx (grownBy_putObj' W' D (.deferred none)) (fun r e => by cases e; exact ⟨by omega, _, hK, rfl⟩)⟩⟩
end Go.Proofs.Ytccokdfkmppohaa

/- A loop over the cells of a set: the law for whoever writes it. -/
namespace Go.Proofs.Ytccokdfkmppohaa
open Go.RowKit Go.Shelf
attribute [local go_sem] Oper.semAt_some

/-- An iterator over cells, by its contract: it hands in the cells cs, each as P says, and lets three blocks lie. -/
def IterMP (P : Int × Int → Prop) (p b h gf : Nat) (lb : Array Value) (cs : List (Int × Int)) (w : World) : Prop :=
  ∀ (l : Nat) (J Jx : List (Int × Int) → World → Prop) (W : World), Below w.heap.size w W → OwnFrom W.heap.size J → OwnFrom W.heap.size Jx →
    (∀ pre c W1, J pre W1 → W.heap.size + 2 ≤ W1.heap.size → pre.length < cs.length → P c → YieldAt Fence.wide 0 Try.prog l #[.agg #[.int .i64 c.1, .int .i64 c.2]] W1 fun e W' =>
      (e = .returned (.bool true) ∧ J (pre ++ [c]) W' ∧ KeptM p b h W.heap.size 2 W1 W') ∨ (e = .returned (.bool false) ∧ Jx (pre ++ [c]) W' ∧ KeptM p b h W.heap.size 2 W1 W')) →
    J [] W →
    CallsIn Fence.wide 10 Try.prog gf (#[.func (.yield l) #[] #[]] ++ lb) W fun e W' => (∃ v, e = .returned v) ∧ (J cs W' ∨ ∃ q, q <+: cs ∧ Jx q W')

/-- The same, of any cells. -/
def IterM (p b h gf : Nat) (lb : Array Value) (cs : List (Int × Int)) (w : World) : Prop := IterMP (fun _ => True) p b h gf lb cs w

/-- The cells of a set. -/
def cellsM (X Y : Int) (bs : List Nat) : List (Int × Int) := (numsOf bs).map (cellAt X Y)
theorem cellAt_in {X Y : Int} (hm : mayB X Y = true) (i : Int) : inB X Y (cellAt X Y i).1 (cellAt X Y i).2 = true := by
  obtain ⟨h1, h2, h3, h4⟩ := mayB_iff.1 hm
  unfold cellAt
  split
  · rename_i h
    obtain ⟨_, _, _, _, h5, h6⟩ := atB_iff.1 h
    have q0 := Int.emod_nonneg i (show X ≠ 0 by omega)
    have q1 := Int.emod_lt_of_pos i (show 0 < X by omega)
    have q2 : 0 ≤ i / X := Int.ediv_nonneg h5 (by omega)
    have q3 : i / X < Y := Int.ediv_lt_of_lt_mul (by omega) (by rw [Int.mul_comm]; exact h6)
    exact inB_iff.2 ⟨h1, h2, h3, h4, q0, q1, q2, q3⟩
  · exact inB_iff.2 ⟨h1, h2, h3, h4, Int.le_refl _, h1, Int.le_refl _, h3⟩
theorem iter_setP (p b h : Nat) (X Y : Int) (bs : List Nat) (hm : mayB X Y = true) (hbs : IsBytes bs) (hl : bs.length ≤ 65536) (w : World) (hs : SetAt w p b h X Y bs) : IterMP (fun c => inB X Y c.1 c.2 = true) p b h 38 #[.pointer (some ⟨p, 0, none⟩)] (cellsM X Y bs) w :=
  fun l J Jx W hW hJ hJx hY h0 => mcells1_in l p b h X Y bs hbs hl J Jx W hJ hJx (fun pre c W1 hj hz hlt hc => hY pre c W1 hj hz (by rw [cellsM, List.length_map]; exact hlt) (by obtain ⟨i, rfl⟩ := hc; exact cellAt_in hm i)) (hs.below hW) h0
theorem iter_set (p b h : Nat) (X Y : Int) (bs : List Nat) (hbs : IsBytes bs) (hl : bs.length ≤ 65536) (w : World) (hs : SetAt w p b h X Y bs) : IterM p b h 38 #[.pointer (some ⟨p, 0, none⟩)] (cellsM X Y bs) w :=
  fun l J Jx W hW hJ hJx hY h0 => mcells1_in l p b h X Y bs hbs hl J Jx W hJ hJx (fun pre c W1 hj hz hlt _ => hY pre c W1 hj hz (by rw [cellsM, List.length_map]; exact hlt) trivial) (hs.below hW) h0

/-- How the body of a round may be left: at its end, by a return, or out of the loop. -/
def bodyM (p b h n₁ : Nat) (I : List (Int × Int) → World → Prop) (Ix : Code → List (Int × Int) → World → Prop) (xs : List (Int × Int)) (W : World) : Exit → Act → World → Prop
  | .normal, _, W' => KeptM p b h n₁ 4 W W' ∧ I xs W'
  | .ret, _, W' => KeptM p b h n₁ 4 W W' ∧ Ix .ret xs W'
  | .exit id, _, W' => KeptM p b h n₁ 4 W W' ∧ Ix (.exit id) xs W'
  | _, _, _ => False

theorem KeptM.put {p b h n c l : Nat} {A : World} (o : Obj) (hl : l < n) (hp : l ≠ p) (hb : l ≠ b) (hh : l ≠ h) : KeptM p b h n c A (A.putObj l o) :=
  ⟨by simp, fun k hk _ => World.putObj_heap_other (by rcases hk with h | h | h | h <;> omega), fun k o hk ho _ => (World.putObj_heap_other (by omega)).trans ho⟩
theorem KeptM.up {p b h n₁ n₂ c₁ c₂ : Nat} {A B : World} (x : KeptM p b h n₁ c₁ A B) (hn : n₁ ≤ n₂) (hc : n₂ + c₂ ≤ n₁ + c₁) : KeptM p b h n₂ c₂ A B := ⟨x.1, fun k hk hl => x.2.1 k (by omega) hl, fun k o hk ho hc => x.2.2 k o (by omega) ho hc⟩
theorem KeptM.heap {p b h n c k : Nat} {A B : World} {o : Obj} (x : KeptM p b h n c A B) (hk : n ≤ k) (ho : A.heap[k]? = some o) (hc : o.isCells = false) : B.heap[k]? = some o := x.2.2 k o hk ho hc

set_option maxHeartbeats 1000000 in
theorem range_iterP {P : Int × Int → Prop} {ps : Array Tmp} {assign body : Code} {g : Operand} {Q : Exit → Act → World → Prop} {a : Act} {w : World} (p b h gf : Nat) (lb : Array Value) (cs : List (Int × Int)) (hit : IterMP P p b h gf lb cs w)
    (hg : a.eval g = .func (.func gf) #[] lb) (hps : ps.size = 1) (hp : p < w.heap.size) (hb : b < w.heap.size) (hh : h < w.heap.size)
    (hen : ∀ args w', (callFunc gf args).run Try.prog w' = .ok (.enter gf args) w')
    (I : List (Int × Int) → World → Prop) (Ix : Code → List (Int × Int) → World → Prop) (hI : OwnFrom w.heap.size I) (hIx : ∀ c, OwnFrom w.heap.size (Ix c)) (h0 : I [] w)
    (Ax : Int × Int → Act → World → Prop) (hAx : ∀ p a', OwnFrom w.heap.size (fun (_ : Unit) W => Ax p a' W))
    (hassign : ∀ (l : Nat) (pre : List (Int × Int)) (c : Int × Int) (W : World) (K : Act → World → Prop), I pre W → (∀ a' W', KeptM p b h w.heap.size 4 W W' → I pre W' → Ax c a' W' → K a' W') →
      assign.wpIn (Fence.wide.inRound l) 7 Try.prog (Exit.then K (fun _ _ _ => False)) { tmps := (ps.zip #[.agg #[.int .i64 c.1, .int .i64 c.2]]).foldl (fun t (p, v) => t.setIfInBounds p v) a.tmps, defers := [] } W)
    (hbody : ∀ (l : Nat) (pre : List (Int × Int)) (c : Int × Int) (a' : Act) (W : World), (∃ r, W.heap[l]? = some (.loop r)) → P c → I pre W → Ax c a' W → w.heap.size + 4 ≤ W.heap.size → pre.length < cs.length → body.wpIn (Fence.wide.inRound l) 7 Try.prog (bodyM p b h w.heap.size I Ix (pre ++ [c]) W) a' W)
    (hdone : ∀ (D : Nat) (W : World), w.heap.size ≤ D → I cs W → W.heap[D]? = some (.deferred (some [])) → Q .normal { a with defers := { target := .collected D, args := #[] } :: a.defers } W)
    (hstop : ∀ (D : Nat) (c : Code) (q : List (Int × Int)) (W : World), w.heap.size ≤ D → q <+: cs → Ix c q W → W.heap[D]? = some (.deferred (some [])) → c.wpIn Fence.wide 11 Try.prog Q { a with defers := { target := .collected D, args := #[] } :: a.defers } W) :
    (Code.rangeFunc g ps assign body).wpIn Fence.wide 11 Try.prog Q a w := by
  refine wpIn_rangeFunc fun fn hfn => ?_
  obtain ⟨R, hR⟩ : ∃ R : LoopState → Option Code → Loop, R = fun st pe => { state := st, pending := pe, fn, tmps := a.tmps, params := ps, assign, body, defers := w.heap.size } := ⟨_, rfl⟩
  obtain ⟨W1, hW1⟩ : ∃ W1, (w.alloc (.deferred (some []))).alloc (.loop (R .ready none)) = W1 := ⟨_, rfl⟩
  have hz : W1.heap.size = w.heap.size + 2 := by rw [← hW1]; simp
  have hk1 : Below w.heap.size w W1 := by rw [← hW1]; exact bl_al (bl_al (bl0 _) _) _
  have hL1 : W1.heap[w.heap.size + 1]? = some (.loop (R .ready none)) := by
    have h := World.alloc_heap_new (w.alloc (.deferred (some []))) (.loop (R .ready none))
    rw [World.size_alloc] at h
    rw [← hW1]; exact h
  have hD1 : W1.heap[w.heap.size]? = some (.deferred (some [])) := by
    rw [← hW1]; exact (Below.heap_alloc _ _ _ (by simp)).trans (World.alloc_heap_new w _)
  have hI1 : I [] W1 := hI [] w W1 none h0 (grown_of_below hk1) (fun r e => by cases e)
  refine ⟨w.heap.size + 1, [{ target := .collected w.heap.size, args := #[] }], W1, { target := .fn (.func gf) lb, args := #[.func (.yield (w.heap.size + 1)) #[] #[]] }, W1, gf,
    #[.func (.yield (w.heap.size + 1)) #[] #[]] ++ lb, W1, ?_, ?_, ?_, ?_, (fun h => by cases h), ?_⟩
  · rw [← hW1, hR]; exact run_enterLoop_outer _ _ _ _ _
  · simp only [resolve, hg]
    simp [go_sem]
  · intro f' _; exact trivial
  · simpa [invoke, go_sem] using hen _ _
  refine (hit (w.heap.size + 1)
    (fun pre W => I pre W ∧ W.heap[w.heap.size + 1]? = some (.loop (R .ready none)) ∧ W.heap[w.heap.size]? = some (.deferred (some [])))
    (fun pre W => ∃ c, Ix c pre W ∧ W.heap[w.heap.size + 1]? = some (.loop (R .done (some c))) ∧ W.heap[w.heap.size]? = some (.deferred (some [])))
    W1 hk1 ?oJ ?oJx ?round ⟨hI1, hL1, hD1⟩).mono ?behind
  case oJ =>
    intro s A B row hs hg' hr
    refine ⟨hI s A B row hs.1 hg' (fun r e => ⟨by have := (hr r e).1; omega, (hr r e).2⟩), (hg'.block _ (Array.getElem?_eq_some_iff.1 hs.2.1).1 (fun e => by have := (hr _ e.symm).1; omega)).trans hs.2.1, (hg'.block _ (Array.getElem?_eq_some_iff.1 hs.2.2).1 (fun e => by have := (hr _ e.symm).1; omega)).trans hs.2.2⟩
  case oJx =>
    rintro s A B row ⟨c, hs⟩ hg' hr
    refine ⟨c, hIx c s A B row hs.1 hg' (fun r e => ⟨by have := (hr r e).1; omega, (hr r e).2⟩), (hg'.block _ (Array.getElem?_eq_some_iff.1 hs.2.1).1 (fun e => by have := (hr _ e.symm).1; omega)).trans hs.2.1, (hg'.block _ (Array.getElem?_eq_some_iff.1 hs.2.2).1 (fun e => by have := (hr _ e.symm).1; omega)).trans hs.2.2⟩
  case behind =>
    rintro e W2 ⟨⟨v, rfl⟩, (⟨hi, hl, hk⟩ | ⟨q, hq, c, hi, hl, hk⟩)⟩
    · have he := run_endLoop (P := Try.prog) hl (by rw [hR]; simp)
      rw [hR] at he
      exact ⟨none, _, he, hdone _ _ (Nat.le_refl _) (hI _ W2 _ _ hi (grownBy_putObj' W2 _ _) (fun r e => by cases e; exact ⟨by omega, _, hl, rfl⟩)) ((World.putObj_heap_other (by omega)).trans hk)⟩
    · have he := run_endLoop (P := Try.prog) hl (by rw [hR]; simp)
      rw [hR] at he
      exact ⟨some c, _, he, hstop _ c q _ (Nat.le_refl _) hq (hIx c _ W2 _ _ hi (grownBy_putObj' W2 _ _) (fun r e => by cases e; exact ⟨by omega, _, hl, rfl⟩)) ((World.putObj_heap_other (by omega)).trans hk)⟩
  case round =>
    rintro pre c W ⟨hi, hl, hk⟩ hsz hlen hPc
    rw [hz]
    have hy := run_yield (P := Try.prog) (args := #[.agg #[.int .i64 c.1, .int .i64 c.2]]) hl (by rw [hR]; simp [hps])
    rw [hR] at hy
    refine mYieldAt_any (m := 7) 0 ⟨fn, _, assign, body, hy, roundIn_of_wpIn hfn (hassign _ pre c W _ hi ?_)⟩
    intro a' Wa hka hia hax
    have hl2 := hka.heap (k := w.heap.size + 1) (by omega) hl rfl
    have hk2 := hka.heap (k := w.heap.size) (by omega) hk rfl
    refine ⟨_, run_beginRound hl2 (by rw [hR]), ?_⟩
    obtain ⟨W3, hW3⟩ : ∃ W3, Wa.putObj (w.heap.size + 1) (.loop { R .ready none with state := .busy }) = W3 := ⟨_, rfl⟩
    rw [hW3]
    have hl3 : W3.heap[w.heap.size + 1]? = some (.loop { R .ready none with state := .busy }) := by rw [← hW3]; exact World.putObj_heap_same (Array.getElem?_eq_some_iff.1 hl2).1
    have hk3 : W3.heap[w.heap.size]? = some (.deferred (some [])) := by rw [← hW3]; exact (World.putObj_heap_other (by omega)).trans hk2
    have hp3 : KeptM p b h (w.heap.size + 2) 2 Wa W3 := by rw [← hW3]; exact KeptM.put _ (by omega) (by omega) (by omega) (by omega)
    have hg3 : Wa.grownBy W3 (some (w.heap.size + 1)) := by rw [← hW3]; exact grownBy_putObj' _ _ _
    have hr3 : ∀ r, some (w.heap.size + 1) = some r → w.heap.size ≤ r ∧ ∃ o : Obj, Wa.heap[r]? = some o ∧ o.isCells = false := fun r e => by cases e; exact ⟨by omega, _, hl2, rfl⟩
    refine wpIn_mono (hbody _ pre c a' W3 ⟨_, hl3⟩ hPc (hI _ Wa W3 _ hia hg3 hr3) (hAx c a' () Wa W3 _ hax hg3 hr3) (by have h1 := hka.1; have h2 := hp3.1; omega) hlen) ?_
    have stop : ∀ (cc : Code) (W4 : World), KeptM p b h w.heap.size 4 W3 W4 → Ix cc (pre ++ [c]) W4 → ∀ o, o = Obj.loop { R .ready none with state := .done, pending := some cc } → (W4.putObj (w.heap.size + 1) o).heap[w.heap.size + 1]? = some (.loop (R .done (some cc))) ∧ (W4.putObj (w.heap.size + 1) o).heap[w.heap.size]? = some (.deferred (some [])) ∧ Ix cc (pre ++ [c]) (W4.putObj (w.heap.size + 1) o) ∧ KeptM p b h (w.heap.size + 2) 2 W (W4.putObj (w.heap.size + 1) o) := by
      rintro cc W4 hb4 hi4 o rfl
      have hl4 := hb4.heap (k := w.heap.size + 1) (by omega) hl3 rfl
      have hk4 := hb4.heap (k := w.heap.size) (by omega) hk3 rfl
      refine ⟨?_, (World.putObj_heap_other (by omega)).trans hk4, hIx cc _ W4 _ _ hi4 (grownBy_putObj' W4 _ _) (fun r e => by cases e; exact ⟨by omega, _, hl4, rfl⟩), ((((hka.up (by omega) (by omega)).trans hp3).trans (hb4.up (by omega) (by omega))).trans (KeptM.put _ (by omega) (by omega) (by omega) (by omega)))⟩
      rw [World.putObj_heap_same (Array.getElem?_eq_some_iff.1 hl4).1, hR]
    rintro e a3 W4 hp'
    cases e with
    | normal =>
      obtain ⟨hb4, hi4⟩ := hp'
      have hl4 := hb4.heap (k := w.heap.size + 1) (by omega) hl3 rfl
      have hk4 := hb4.heap (k := w.heap.size) (by omega) hk3 rfl
      have he := run_endRound (P := Try.prog) none hl4
      refine ⟨_, _, he, .inl ⟨rfl, ⟨hI _ W4 _ _ hi4 (grownBy_putObj' W4 _ _) (fun r e => by cases e; exact ⟨by omega, _, hl4, rfl⟩), ?_, (World.putObj_heap_other (by omega)).trans hk4⟩, ?_⟩⟩
      · rw [World.putObj_heap_same (Array.getElem?_eq_some_iff.1 hl4).1, hR]; rfl
      · exact ((((hka.up (by omega) (by omega)).trans hp3).trans (hb4.up (by omega) (by omega))).trans (KeptM.put _ (by omega) (by omega) (by omega) (by omega)))
    | ret =>
      obtain ⟨hb4, hi4⟩ := hp'
      have he := run_endRound (P := Try.prog) (some .ret) (hb4.heap (k := w.heap.size + 1) (by omega) hl3 rfl)
      obtain ⟨q1, q2, q3, q4⟩ := stop .ret W4 hb4 hi4 _ rfl
      exact ⟨_, _, he, .inr ⟨rfl, ⟨_, q3, q1, q2⟩, q4⟩⟩
    | exit id =>
      obtain ⟨hb4, hi4⟩ := hp'
      have he := run_endRound (P := Try.prog) (some (.exit id)) (hb4.heap (k := w.heap.size + 1) (by omega) hl3 rfl)
      obtain ⟨q1, q2, q3, q4⟩ := stop (.exit id) W4 hb4 hi4 _ rfl
      exact ⟨_, _, he, .inr ⟨rfl, ⟨_, q3, q1, q2⟩, q4⟩⟩
    | goto t => exact hp'.elim
    | panic ch => exact hp'.elim
    | outgrown => exact hp'.elim
/-- The same, for a body that asks nothing of its own loop. -/
theorem range_iter {ps : Array Tmp} {assign body : Code} {g : Operand} {Q : Exit → Act → World → Prop} {a : Act} {w : World} (p b h gf : Nat) (lb : Array Value) (cs : List (Int × Int)) (hit : IterM p b h gf lb cs w)
    (hg : a.eval g = .func (.func gf) #[] lb) (hps : ps.size = 1) (hp : p < w.heap.size) (hb : b < w.heap.size) (hh : h < w.heap.size)
    (hen : ∀ args w', (callFunc gf args).run Try.prog w' = .ok (.enter gf args) w')
    (I : List (Int × Int) → World → Prop) (Ix : Code → List (Int × Int) → World → Prop) (hI : OwnFrom w.heap.size I) (hIx : ∀ c, OwnFrom w.heap.size (Ix c)) (h0 : I [] w)
    (Ax : Int × Int → Act → World → Prop) (hAx : ∀ p a', OwnFrom w.heap.size (fun (_ : Unit) W => Ax p a' W))
    (hassign : ∀ (l : Nat) (pre : List (Int × Int)) (c : Int × Int) (W : World) (K : Act → World → Prop), I pre W → (∀ a' W', KeptM p b h w.heap.size 4 W W' → I pre W' → Ax c a' W' → K a' W') →
      assign.wpIn (Fence.wide.inRound l) 7 Try.prog (Exit.then K (fun _ _ _ => False)) { tmps := (ps.zip #[.agg #[.int .i64 c.1, .int .i64 c.2]]).foldl (fun t (p, v) => t.setIfInBounds p v) a.tmps, defers := [] } W)
    (hbody : ∀ (l : Nat) (pre : List (Int × Int)) (c : Int × Int) (a' : Act) (W : World), I pre W → Ax c a' W → w.heap.size + 4 ≤ W.heap.size → pre.length < cs.length → body.wpIn (Fence.wide.inRound l) 7 Try.prog (bodyM p b h w.heap.size I Ix (pre ++ [c]) W) a' W)
    (hdone : ∀ (D : Nat) (W : World), w.heap.size ≤ D → I cs W → W.heap[D]? = some (.deferred (some [])) → Q .normal { a with defers := { target := .collected D, args := #[] } :: a.defers } W)
    (hstop : ∀ (D : Nat) (c : Code) (q : List (Int × Int)) (W : World), w.heap.size ≤ D → q <+: cs → Ix c q W → W.heap[D]? = some (.deferred (some [])) → c.wpIn Fence.wide 11 Try.prog Q { a with defers := { target := .collected D, args := #[] } :: a.defers } W) :
    (Code.rangeFunc g ps assign body).wpIn Fence.wide 11 Try.prog Q a w :=
  range_iterP (P := fun _ => True) p b h gf lb cs hit hg hps hp hb hh hen I Ix hI hIx h0 Ax hAx hassign (fun l pre c a' W _ _ => hbody l pre c a' W) hdone hstop
end Go.Proofs.Ytccokdfkmppohaa

/- The numbers of a set's cells: which they are, and how many. -/
namespace Go.Proofs.Ytccokdfkmppohaa
open Go.RowKit

theorem numsTo_range (bs : List Nat) (k : Nat) : numsTo bs k = ((List.range (k * 8)).filter (fun i => bitAt bs i)).map (fun i : Nat => (i : Int)) := by
  induction k with
  | zero => rfl
  | succ k ih =>
    rw [numsTo_succ, ih, Nat.add_mul, Nat.one_mul, List.range_add, List.filter_append, List.map_append, List.filter_map, List.map_map]
    congr 1
    have e : (List.range 8).filter ((fun i => bitAt bs i) ∘ fun x => k * 8 + x) = bl (bs.getD k 0) := by
      unfold bl
      refine List.filter_congr fun i hi => ?_
      rw [List.mem_range] at hi
      show bitAt bs (k * 8 + i) = _
      unfold bitAt
      rw [show (k * 8 + i) / 8 = k by omega, show (k * 8 + i) % 8 = i by omega]
    rw [e]
    refine List.map_congr_left fun i _ => ?_
    simp [numOf]
theorem numsOf_range (bs : List Nat) : numsOf bs = ((List.range (bs.length * 8)).filter (fun i => bitAt bs i)).map (fun i : Nat => (i : Int)) := numsTo_range bs _
theorem bl_lens : ∀ n : Fin 256, (bl n.val).length = Lib.onesCount n.val := by decide +kernel
theorem bl_len (x : Nat) (h : x < 256) : (bl x).length = Lib.onesCount x := bl_lens ⟨x, h⟩
theorem numsTo_len (bs : List Nat) (hbs : IsBytes bs) : ∀ k, k ≤ bs.length → (numsTo bs k).length = ones (bs.take k)
  | 0, _ => by simp [numsTo_zero, ones]
  | k + 1, hk => by
    have h := numsTo_len bs hbs k (by omega)
    have hx : bs.getD k 0 = bs[k] := by simp [List.getD_eq_getElem?_getD, show k < bs.length from hk]
    rw [numsTo_succ, List.length_append, List.length_map, h, hx, bl_len _ (hbs _ (List.getElem_mem hk)), List.take_succ_eq_append_getElem hk]
    simp only [ones, List.map_append, List.sum_append, List.map_cons, List.map_nil, List.sum_cons, List.sum_nil, Nat.add_zero]
theorem numsOf_len (bs : List Nat) (hbs : IsBytes bs) : (numsOf bs).length = ones bs := by
  have h := numsTo_len bs hbs bs.length (Nat.le_refl _)
  rwa [List.take_length] at h
theorem cellsM_len (X Y : Int) (bs : List Nat) (hbs : IsBytes bs) : (cellsM X Y bs).length = ones bs := by rw [cellsM, List.length_map, numsOf_len bs hbs]
theorem bit_out (bs : List Nat) (i : Nat) (h : bs.length * 8 ≤ i) : bitAt bs i = false := by
  unfold bitAt
  have h2 : bs.length ≤ i / 8 := by omega
  simp [List.getD_eq_getElem?_getD, h2]
theorem mem_nums (bs : List Nat) (i : Int) : i ∈ numsOf bs ↔ 0 ≤ i ∧ bitAt bs i.toNat = true := by
  rw [numsOf_range]
  simp only [List.mem_map, List.mem_filter, List.mem_range]
  constructor
  · rintro ⟨j, ⟨_, hj⟩, rfl⟩
    exact ⟨Int.natCast_nonneg _, by rwa [Int.toNat_natCast]⟩
  · rintro ⟨h0, hb⟩
    refine ⟨i.toNat, ⟨?_, hb⟩, by omega⟩
    refine Nat.lt_of_not_le fun hle => ?_
    rw [bit_out bs _ hle] at hb
    cases hb
/-- A set's numbers rise. -/
theorem nums_sorted (bs : List Nat) : (numsOf bs).Pairwise (· < ·) := by
  rw [numsOf_range, List.pairwise_map]
  refine List.Pairwise.filter _ ?_
  exact (List.pairwise_lt_range).imp (fun h => by omega)
/-- Every number of a set is a cell of its map. -/
theorem nums_at {X Y : Int} {bs : List Nat} (hg : Good X Y bs) {i : Int} (hi : i ∈ numsOf bs) : atB X Y i = true := by
  obtain ⟨h0, hb⟩ := (mem_nums bs i).1 hi
  obtain ⟨m, _, _, g⟩ := hg
  obtain ⟨h1, h2, h3, h4⟩ := mayB_iff.1 m
  refine atB_iff.2 ⟨h1, h2, h3, h4, h0, ?_⟩
  refine Int.lt_of_not_ge fun hle => ?_
  rw [g i.toNat (by omega)] at hb
  cases hb
theorem cell_of_num {X Y : Int} {bs : List Nat} (hg : Good X Y bs) {i : Int} (hi : i ∈ numsOf bs) : cellAt X Y i = (i % X, i / X) := by simp [cellAt, nums_at hg hi]
/-- .. and its cell's number is it. -/
theorem num_of_cell {X Y : Int} {bs : List Nat} (hg : Good X Y bs) {i : Int} (hi : i ∈ numsOf bs) : (cellAt X Y i).2 * X + (cellAt X Y i).1 = i ∧ inB X Y (cellAt X Y i).1 (cellAt X Y i).2 = true := by
  rw [cell_of_num hg hi]
  obtain ⟨h1, h2, h3, h4, h5, h6⟩ := atB_iff.1 (nums_at hg hi)
  have e := Int.emod_add_mul_ediv i X
  have q0 := Int.emod_nonneg i (show X ≠ 0 by omega)
  have q1 := Int.emod_lt_of_pos i (show 0 < X by omega)
  have q2 : 0 ≤ i / X := Int.ediv_nonneg h5 (by omega)
  have q3 : i / X < Y := Int.ediv_lt_of_lt_mul (by omega) (by rw [Int.mul_comm]; exact h6)
  refine ⟨?_, ?_⟩
  · dsimp only
    rw [Int.mul_comm]; omega
  · rw [inB_iff]
    dsimp only
    refine ⟨?_, ?_, ?_, ?_, ?_, ?_, ?_, ?_⟩ <;> omega
end Go.Proofs.Ytccokdfkmppohaa

/- Package geom: contracts of At outside a map, and of boxes. -/
namespace Go.Proofs.Ytccokdfkmppohaa
open Go.RowKit

def rightB (X Y W H : Int) : Bool := decide (-1048576 ≤ X ∧ X ≤ 1048576 ∧ -1048576 ≤ Y ∧ Y ≤ 1048576 ∧ 0 ≤ W ∧ W ≤ 256 ∧ 0 ≤ H ∧ H ≤ 256)
theorem rightB_iff {X Y W H : Int} : rightB X Y W H = true ↔ -1048576 ≤ X ∧ X ≤ 1048576 ∧ -1048576 ≤ Y ∧ Y ≤ 1048576 ∧ 0 ≤ W ∧ W ≤ 256 ∧ 0 ≤ H ∧ H ≤ 256 := by simp [rightB]
def hasB (X Y W H A B : Int) : Bool := rightB X Y W H && decide (X ≤ A ∧ A < X + W ∧ Y ≤ B ∧ B < Y + H)
theorem hasB_iff {X Y W H A B : Int} : hasB X Y W H A B = true ↔ rightB X Y W H = true ∧ X ≤ A ∧ A < X + W ∧ Y ≤ B ∧ B < Y + H := by simp [hasB]
def fitsB (U V X Y W H : Int) : Bool := rightB X Y W H && mayB U V && decide (0 < W ∧ 0 < H ∧ 0 ≤ X ∧ 0 ≤ Y ∧ X + W ≤ U ∧ Y + H ≤ V)
theorem fitsB_iff {U V X Y W H : Int} : fitsB U V X Y W H = true ↔ rightB X Y W H = true ∧ mayB U V = true ∧ 0 < W ∧ 0 < H ∧ 0 ≤ X ∧ 0 ≤ Y ∧ X + W ≤ U ∧ Y + H ≤ V := by simp [fitsB, and_assoc]



end Go.Proofs.Ytccokdfkmppohaa

/- The rows of a box, as an iterator: its contract. -/
namespace Go.Proofs.Ytccokdfkmppohaa
open Go.RowKit Go.Shelf
attribute [local go_sem] Oper.semAt_some

/-- f 0, .., f (k - 1). -/
def upto {α : Type} (f : Nat → α) (k : Nat) : List α := (List.range k).map f
theorem upto_zero {α : Type} (f : Nat → α) : upto f 0 = [] := rfl
theorem upto_succ {α : Type} (f : Nat → α) (k : Nat) : upto f (k + 1) = upto f k ++ [f k] := by simp [upto, List.range_succ]
theorem upto_length {α : Type} (f : Nat → α) (k : Nat) : (upto f k).length = k := by simp [upto]

/-- The box's four cells. -/
def BoxAt (W : World) (b : Nat) (X Y U V : Int) : Prop := W.cell? ⟨b, 0, none⟩ = some (.int .i64 X) ∧ W.cell? ⟨b, 1, none⟩ = some (.int .i64 Y) ∧ W.cell? ⟨b, 2, none⟩ = some (.int .i64 U) ∧ W.cell? ⟨b, 3, none⟩ = some (.int .i64 V)
/-- Block b lies as it lay. -/
def KeepB (b : Nat) (A B : World) : Prop := B.heap[b]? = A.heap[b]?
theorem BoxAt.kept {b : Nat} {W W' : World} {X Y U V : Int} (h : BoxAt W b X Y U V) (hb : KeepB b W W') : BoxAt W' b X Y U V :=
  ⟨(World.cell?_of_block (a := ⟨b, 0, none⟩) hb).trans h.1, (World.cell?_of_block (a := ⟨b, 1, none⟩) hb).trans h.2.1, (World.cell?_of_block (a := ⟨b, 2, none⟩) hb).trans h.2.2.1, (World.cell?_of_block (a := ⟨b, 3, none⟩) hb).trans h.2.2.2⟩

theorem upto_prefix {α : Type} (f : Nat → α) {k m : Nat} (h : k ≤ m) : upto f k <+: upto f m := by
  obtain ⟨d, rfl⟩ := Nat.exists_eq_add_of_le h
  refine ⟨(List.range d).map (fun j => f (k + j)), ?_⟩
  simp [upto, List.range_add]

/-- How many rows come. -/
def rowsOf (X Y U V : Int) : Nat := if rightB X Y U V = true then V.toNat else 0

end Go.Proofs.Ytccokdfkmppohaa

/- The cells of a box, as an iterator: its contract, for whoever keeps what the iterator laid. -/
namespace Go.Proofs.Ytccokdfkmppohaa
open Go.RowKit Go.Shelf
attribute [local go_sem] Oper.semAt_some

/-- Block b, and all from n₁ on, lie as they lay. -/
def KeptB (b n₁ : Nat) (A B : World) : Prop := A.heap.size ≤ B.heap.size ∧ ∀ k, (k = b ∨ n₁ ≤ k) → k < A.heap.size → B.heap[k]? = A.heap[k]?
theorem KeptB.refl (b n₁ : Nat) (A : World) : KeptB b n₁ A A := ⟨Nat.le_refl _, fun _ _ _ => rfl⟩
theorem KeptB.trans {b n₁ : Nat} {A B C : World} (h : KeptB b n₁ A B) (k : KeptB b n₁ B C) : KeptB b n₁ A C :=
  ⟨Nat.le_trans h.1 k.1, fun i hi hl => (k.2 i hi (Nat.lt_of_lt_of_le hl h.1)).trans (h.2 i hi hl)⟩
theorem KeptB.from {b n₁ B : Nat} {A C : World} (h : KeptB b n₁ A C) (hB : n₁ ≤ B) : KeepsFrom B A C :=
  ⟨h.1, fun k o hk ho _ => by have hl := (Array.getElem?_eq_some_iff.1 ho).1; exact (h.2 k (.inr (by omega)) hl).trans ho⟩
theorem KeptB.at {b n₁ k : Nat} {A C : World} (h : KeptB b n₁ A C) (hk : n₁ ≤ k) (hl : k < A.heap.size) : KeepB k A C := h.2 k (.inr hk) hl

theorem yieldAt_any {m : Nat} (m' : Nat) {P : Program} {l : Nat} {args : Array Value} {W : World} {R : Ending → World → Prop} (h : YieldAt Fence.wide m P l args W R) : YieldAt Fence.wide m' P l args W R := by
  obtain ⟨fn, tmps, assign, body, hy, hR⟩ := h
  exact ⟨fn, tmps, assign, body, hy, ⟨hR.1, fun c cs _ => hR.2 c cs (room_wide _)⟩⟩

theorem roundIn_in {F : Fence} (l' : Nat) {m : Nat} {P : Program} {l : Nat} {f : FuncId} {tmps : Array Value} {assign body : Code} {w : World} {R : Ending → World → Prop}
    (h : RoundIn F m P l f tmps assign body w R) : RoundIn (F.inRound l') m P l f tmps assign body w R := h

/-- The cells that come of some rows. -/
def cellsOf (X : Int) (U : Nat) (ys : List Int) : List (Int × Int) := ys.flatMap (fun y => upto (fun c => (X + (c : Int), y)) U)
theorem cellsOf_snoc (X : Int) (U : Nat) (ys : List Int) (y : Int) : cellsOf X U (ys ++ [y]) = cellsOf X U ys ++ upto (fun c => (X + (c : Int), y)) U := by simp [cellsOf, List.flatMap_append]
theorem cellsOf_len (X : Int) (U : Nat) : ∀ ys : List Int, (cellsOf X U ys).length = ys.length * U
  | [] => by simp [cellsOf]
  | y :: ys => by
    have := cellsOf_len X U ys
    simp only [cellsOf, List.flatMap_cons, List.length_append, upto_length, List.length_cons] at this ⊢
    rw [this, Nat.add_mul, Nat.one_mul, Nat.add_comm]
theorem cellsOf_prefix (X : Int) (U : Nat) {ys zs : List Int} (h : ys <+: zs) : cellsOf X U ys <+: cellsOf X U zs := by
  obtain ⟨t, rfl⟩ := h
  exact ⟨cellsOf X U t, by simp [cellsOf, List.flatMap_append]⟩

theorem boxAt_own (b : Nat) (X Y U V : Int) : Go.Own (fun (_ : List Int) W => BoxAt W b X Y U V) := fun _ _ _ _ hs hg hr =>
  ⟨cell_kept hs.1 hg hr, cell_kept hs.2.1 hg hr, cell_kept hs.2.2.1 hg hr, cell_kept hs.2.2.2 hg hr⟩

end Go.Proofs.Ytccokdfkmppohaa

/- The cells of a box, as a list: what lies in it, and when all of it lies on a map. -/
namespace Go.Proofs.Ytccokdfkmppohaa
open Go.RowKit Go.Shelf

/-- All cells of a box, in the order of the rows. -/
def boxCells (X Y U V : Int) : List (Int × Int) := cellsOf X U.toNat (upto (fun j => Y + (j : Int)) (rowsOf X Y U V))
theorem boxCells_len (X Y U V : Int) : (boxCells X Y U V).length = rowsOf X Y U V * U.toNat := by simp [boxCells, cellsOf_len, upto_length]
theorem mem_upto {α : Type} {f : Nat → α} {k : Nat} {a : α} : a ∈ upto f k ↔ ∃ i, i < k ∧ f i = a := by simp [upto]
theorem mem_boxCells {X Y U V : Int} {p : Int × Int} : p ∈ boxCells X Y U V ↔ hasB X Y U V p.1 p.2 = true := by
  rw [hasB_iff]
  unfold boxCells cellsOf
  simp only [List.mem_flatMap, mem_upto]
  unfold rowsOf
  constructor
  · rintro ⟨y, ⟨i, hi, rfl⟩, ⟨c, hc, rfl⟩⟩
    by_cases hr : rightB X Y U V = true
    · rw [if_pos hr] at hi
      refine ⟨hr, ?_, ?_, ?_, ?_⟩ <;> dsimp only <;> omega
    · rw [if_neg hr] at hi; omega
  · rintro ⟨hr, h1, h2, h3, h4⟩
    rw [if_pos hr]
    refine ⟨p.2, ⟨(p.2 - Y).toNat, by omega, by omega⟩, ⟨(p.1 - X).toNat, by omega, ?_⟩⟩
    apply Prod.ext
    · dsimp only; omega
    · rfl
theorem boxCells_not {X Y U V : Int} (h : rightB X Y U V = false) : boxCells X Y U V = [] := by simp [boxCells, rowsOf, h, upto, cellsOf]

/-- A box's cells are all on the map, and there is one: the box fits. -/
theorem boxCells_fits (A B X Y U V : Int) : (decide (0 < ((boxCells X Y U V).length : Int)) && (boxCells X Y U V).all (fun p => inB A B p.1 p.2)) = fitsB A B X Y U V := by
  rw [Bool.eq_iff_iff, fitsB_iff]
  simp only [Bool.and_eq_true, decide_eq_true_eq, List.all_eq_true]
  constructor
  · rintro ⟨h0, ha⟩
    by_cases hr : rightB X Y U V = true
    · obtain ⟨r1, r2, r3, r4, r5, r6, r7, r8⟩ := rightB_iff.1 hr
      have hpos : 0 < U ∧ 0 < V := by
        rw [boxCells_len, rowsOf, if_pos hr] at h0
        constructor
        · by_cases hu : 0 < U
          · exact hu
          · have : U.toNat = 0 := by omega
            rw [this] at h0; simp at h0
        · by_cases hv : 0 < V
          · exact hv
          · have : V.toNat = 0 := by omega
            rw [this] at h0; simp at h0
      have a := inB_iff.1 (ha (X, Y) (mem_boxCells.2 (hasB_iff.2 ⟨hr, by dsimp only; omega, by dsimp only; omega, by dsimp only; omega, by dsimp only; omega⟩)))
      have b := inB_iff.1 (ha (X + U - 1, Y + V - 1) (mem_boxCells.2 (hasB_iff.2 ⟨hr, by dsimp only; omega, by dsimp only; omega, by dsimp only; omega, by dsimp only; omega⟩)))
      dsimp only at a b
      exact ⟨hr, mayB_iff.2 ⟨by omega, by omega, by omega, by omega⟩, by omega, by omega, by omega, by omega, by omega, by omega⟩
    · rw [boxCells_not (by simpa using hr)] at h0; simp at h0
  · rintro ⟨hr, hm, h1, h2, h3, h4, h5, h6⟩
    obtain ⟨m1, m2, m3, m4⟩ := mayB_iff.1 hm
    refine ⟨?_, fun p hp => ?_⟩
    · have : (X, Y) ∈ boxCells X Y U V := mem_boxCells.2 (hasB_iff.2 ⟨hr, by dsimp only; omega, by dsimp only; omega, by dsimp only; omega, by dsimp only; omega⟩)
      have := List.length_pos_of_mem this
      omega
    · obtain ⟨_, q1, q2, q3, q4⟩ := hasB_iff.1 (mem_boxCells.1 hp)
      exact inB_iff.2 ⟨m1, m2, m3, m4, by omega, by omega, by omega, by omega⟩
end Go.Proofs.Ytccokdfkmppohaa

/- A loop over the cells of a box within a round of another one: the law. -/
namespace Go.Proofs.Ytccokdfkmppohaa
open Go.RowKit Go.Shelf
attribute [local go_sem] Oper.semAt_some

/-- How the body of a round is left: at its end. -/
def bodyB (b n₁ : Nat) (I : List (Int × Int) → World → Prop) (xs : List (Int × Int)) (W : World) : Exit → Act → World → Prop
  | .normal, _, W' => KeptB b n₁ W W' ∧ I xs W'
  | _, _, _ => False

theorem KeptB.put {b n₁ l : Nat} {A : World} (o : Obj) (hl : l < n₁) (hb : l ≠ b) : KeptB b n₁ A (A.putObj l o) :=
  ⟨by simp, fun k hk _ => World.putObj_heap_other (by rcases hk with h | h <;> omega)⟩
theorem KeptB.up {b n₁ n₂ : Nat} {A B : World} (h : KeptB b n₁ A B) (hn : n₁ ≤ n₂) : KeptB b n₂ A B := ⟨h.1, fun k hk hl => h.2 k (by omega) hl⟩
theorem KeptB.heap {b n₁ k : Nat} {A B : World} {o : Obj} (h : KeptB b n₁ A B) (hk : n₁ ≤ k) (ho : A.heap[k]? = some o) : B.heap[k]? = some o := (h.2 k (.inr hk) (Array.getElem?_eq_some_iff.1 ho).1).trans ho


end Go.Proofs.Ytccokdfkmppohaa

/- Sight: sets of what is seen. -/
namespace Go.Proofs.Ytccokdfkmppohaa
open Go.RowKit

end Go.Proofs.Ytccokdfkmppohaa

/- Sight: put, a list of cells put into a set. -/
namespace Go.Proofs.Ytccokdfkmppohaa
open Go.RowKit

/-- All cells put in, one by one. -/
def putAll (X : Int) (bs : List Nat) (zs : List (Int × Int)) : List Nat := zs.foldl (fun bs p => setB bs (p.2 * X + p.1).toNat true) bs
theorem putAll_succ (X : Int) (bs : List Nat) (zs : List (Int × Int)) (k : Nat) (hk : k < zs.length) : putAll X bs (zs.take (k + 1)) = setB (putAll X bs (zs.take k)) (zs[k].2 * X + zs[k].1).toNat true := by
  unfold putAll
  rw [List.take_succ_eq_append_getElem hk, List.foldl_append]
  rfl
theorem Good.putAll {X Y : Int} {bs : List Nat} (g : Good X Y bs) : ∀ (zs : List (Int × Int)), (∀ z ∈ zs, inB X Y z.1 z.2 = true) → Good X Y (putAll X bs zs)
  | [], _ => g
  | z :: zs, h => Good.putAll (bs := setB bs (z.2 * X + z.1).toNat true) (g.set (h z (by simp)) true) zs (fun y hy => h y (by simp [hy]))

end Go.Proofs.Ytccokdfkmppohaa

/- Sight: All of what is wrong. -/
namespace Go.Proofs.Ytccokdfkmppohaa
open Go.RowKit


end Go.Proofs.Ytccokdfkmppohaa

/- Sight: which cells are in a set when a list was put into it. -/
namespace Go.Proofs.Ytccokdfkmppohaa
open Go.RowKit

/-- The number of a cell, by its map's width. -/
def numC (X : Int) (z : Int × Int) : Nat := (z.2 * X + z.1).toNat
theorem bitAt_putAll {X Y : Int} : ∀ (zs : List (Int × Int)) (bs : List Nat), Good X Y bs → (∀ z ∈ zs, inB X Y z.1 z.2 = true) → ∀ i : Nat, bitAt (putAll X bs zs) i = true ↔ (bitAt bs i = true ∨ ∃ z ∈ zs, numC X z = i)
  | [], bs, _, _, i => by simp [putAll]
  | z :: zs, bs, g, h, i => by
    have hz := h z (by simp)
    have ih := bitAt_putAll zs (setB bs (z.2 * X + z.1).toNat true) (g.set hz true) (fun y hy => h y (by simp [hy])) i
    have e : putAll X bs (z :: zs) = putAll X (setB bs (z.2 * X + z.1).toNat true) zs := rfl
    rw [e, ih, bitAt_setB _ _ _ (g.idx hz)]
    by_cases hi : i = (z.2 * X + z.1).toNat
    · subst hi
      simp [numC]
    · rw [if_neg hi]
      constructor
      · rintro (h | ⟨y, hy, e⟩)
        · exact .inl h
        · exact .inr ⟨y, by simp [hy], e⟩
      · rintro (h | ⟨y, hy, e'⟩)
        · exact .inl h
        · rcases List.mem_cons.1 hy with rfl | hy
          · exact absurd e'.symm hi
          · exact .inr ⟨y, hy, e'⟩
/-- Two cells of a map with the same number are the same. -/
theorem numC_inj {X Y : Int} {a b : Int × Int} (ha : inB X Y a.1 a.2 = true) (hb : inB X Y b.1 b.2 = true) (h : numC X a = numC X b) : a = b := by
  obtain ⟨a1, a2⟩ := idx_lt ha
  obtain ⟨b1, b2⟩ := idx_lt hb
  obtain ⟨h1, h2, h3, h4, h5, h6, h7, h8⟩ := inB_iff.1 ha
  obtain ⟨_, _, _, _, k5, k6, k7, k8⟩ := inB_iff.1 hb
  unfold numC at h
  have e : a.2 * X + a.1 = b.2 * X + b.1 := by omega
  have e1 : a.2 = b.2 := by
    have p : (a.2 * X + a.1) / X = a.2 := by rw [Int.add_comm, Int.add_mul_ediv_right _ _ (by omega), Int.ediv_eq_zero_of_lt h5 h6, Int.zero_add]
    have q : (b.2 * X + b.1) / X = b.2 := by rw [Int.add_comm, Int.add_mul_ediv_right _ _ (by omega), Int.ediv_eq_zero_of_lt k5 k6, Int.zero_add]
    rw [← p, ← q, e]
  have e2 : a.1 = b.1 := by rw [e1] at e; omega
  exact Prod.ext e2 e1
end Go.Proofs.Ytccokdfkmppohaa

/- Sight: All of a cell off the map. -/
namespace Go.Proofs.Ytccokdfkmppohaa
open Go.RowKit

theorem good_zero0 {X Y : Int} (h : mayB X Y = true) : Good X Y (List.replicate ((X * Y + 7) / 8).toNat 0) := by
  obtain ⟨h1, h2, h3, h4⟩ := mayB_iff.1 h
  have m1 : 0 ≤ X * Y := Int.mul_nonneg (by omega) (by omega)
  refine ⟨h, by simp; omega, fun x hx => by rw [(List.mem_replicate.1 hx).2]; omega, fun i _ => ?_⟩
  unfold bitAt
  rw [List.getD_eq_getElem?_getD, List.getElem?_replicate]
  split <;> simp

end Go.Proofs.Ytccokdfkmppohaa

/- Sight: All of what is right. -/
namespace Go.Proofs.Ytccokdfkmppohaa
open Go.RowKit Go.Shelf
attribute [local go_sem] Oper.semAt_some

/-- How far two cells lie apart. -/
def farN (a b : Int × Int) : Nat := (max (apartI a.1 b.1) (apartI a.2 b.2)).toNat
/-- What one line adds q a set. -/
def lookTo (X Y : Int) (zs : List Int) (e : Int × Int) (bs : List Nat) (q : Int × Int) : List Nat :=
  if inB X Y q.1 q.2 = true then putAll X bs (seenF X zs e.1 e.2 q.1 q.2 (farN e q)) else bs
/-- The cells of the box around a cell. -/
def boxOf (r : Int) (e : Int × Int) : List (Int × Int) := cellsOf (e.1 - r) (2 * r + 1).toNat (upto (fun j => e.2 - r + (j : Int)) (rowsOf (e.1 - r) (e.2 - r) (2 * r + 1) (2 * r + 1)))
def lookBox (X Y : Int) (zs : List Int) (e : Int × Int) (bs : List Nat) (l : List (Int × Int)) : List Nat := l.foldl (lookTo X Y zs e) bs
def lookAll (X Y : Int) (zs : List Int) (r : Int) (bs : List Nat) (es : List (Int × Int)) : List Nat := es.foldl (fun bs e => lookBox X Y zs e bs (boxOf r e)) bs
theorem lookBox_snoc (X Y : Int) (zs : List Int) (e : Int × Int) (bs : List Nat) (l : List (Int × Int)) (c : Int × Int) : lookBox X Y zs e bs (l ++ [c]) = lookTo X Y zs e (lookBox X Y zs e bs l) c := by simp [lookBox, List.foldl_append]
theorem lookAll_snoc (X Y : Int) (zs : List Int) (r : Int) (bs : List Nat) (l : List (Int × Int)) (c : Int × Int) : lookAll X Y zs r bs (l ++ [c]) = lookBox X Y zs c (lookAll X Y zs r bs l) (boxOf r c) := by simp [lookAll, List.foldl_append]

theorem seen_in {X Y : Int} {zs : List Int} {e q : Int × Int} (h1 : inB X Y e.1 e.2 = true) (h2 : inB X Y q.1 q.2 = true) : ∀ z ∈ seenF X zs e.1 e.2 q.1 q.2 (farN e q), inB X Y z.1 z.2 = true := by
  intro z hz
  obtain ⟨n, hn, hdx, hdy⟩ := far_nat e.1 e.2 q.1 q.2
  have en : farN e q = n := by unfold farN; omega
  rw [en] at hz
  have hz2 := (take_prefix_walk _ _).subset hz
  unfold lineF at hz2
  obtain ⟨k, hk, rfl⟩ := List.mem_map.1 hz2
  rw [List.mem_range] at hk
  exact line_in h1 h2 hdx hdy (by omega)
theorem Good.lookTo {X Y : Int} {zs : List Int} {e : Int × Int} {bs : List Nat} (g : Good X Y bs) (h1 : inB X Y e.1 e.2 = true) (q : Int × Int) : Good X Y (lookTo X Y zs e bs q) := by
  unfold Proofs.Ytccokdfkmppohaa.lookTo
  split
  · rename_i h2; exact g.putAll _ (seen_in h1 h2)
  · exact g
theorem Good.lookBox {X Y : Int} {zs : List Int} {e : Int × Int} (h1 : inB X Y e.1 e.2 = true) : ∀ (l : List (Int × Int)) (bs : List Nat), Good X Y bs → Good X Y (lookBox X Y zs e bs l)
  | [], _, g => g
  | c :: l, bs, g => Good.lookBox h1 l (Proofs.Ytccokdfkmppohaa.lookTo X Y zs e bs c) (g.lookTo h1 c)
theorem Good.lookAll {X Y : Int} {zs : List Int} {r : Int} : ∀ (es : List (Int × Int)) (bs : List Nat), (∀ e ∈ es, inB X Y e.1 e.2 = true) → Good X Y bs → Good X Y (lookAll X Y zs r bs es)
  | [], _, _, g => g
  | e :: es, bs, h, g => Good.lookAll es (Proofs.Ytccokdfkmppohaa.lookBox X Y zs e bs (boxOf r e)) (fun x hx => h x (by simp [hx])) (Good.lookBox (h e (by simp)) _ _ g)


/-- A row of cells lies apart from a set's bytes. -/
theorem rowC_apart {w : World} {a : Option Addr} {zs : List (Int × Int)} {b h : Nat} {X Y : Int} {bs : List Nat} (hr : RowC w a zs) (hm : MaskAt w b h X Y bs) : ∀ gb o, zs ≠ [] → a = some ⟨gb, o, none⟩ → gb ≠ h := by
  rintro gb o hz rfl rfl
  obtain ⟨b', o', e1, q, _⟩ := hr.cell (List.length_pos_iff.2 hz)
  cases e1
  unfold World.cell? at q
  simp only [hm.2] at q
  simp only [List.getElem?_toArray, List.getElem?_map] at q
  simp at q
theorem KeptB.of_below {b n₁ : Nat} {A C : World} (h : Below A.heap.size A C) : KeptB b n₁ A C := ⟨h.size, fun k _ hl => h.block k hl⟩
theorem KeptM.of_grown {p b h n c r : Nat} {A B : World} (g : A.grownBy B (some r)) (h1 : r ≠ p) (h2 : r ≠ b) (h3 : r ≠ h) (h4 : r < n) : KeptM p b h n c A B :=
  ⟨g.size, fun k hk hl => g.block k hl (fun e => by cases e; omega), fun k o hk ho _ => (g.block k (Array.getElem?_eq_some_iff.1 ho).1 (fun e => by cases e; omega)).trans ho⟩
theorem KeptB.of_grown {b n r : Nat} {A B : World} (g : A.grownBy B (some r)) (h1 : r ≠ b) (h2 : r < n) : KeptB b n A B :=
  ⟨g.size, fun k hk hl => g.block k hl (fun e => by cases e; omega)⟩
/-- What a loop that fills a set holds: all lies as it lay but the set's bytes. -/
def FillI (W0 : World) (b h : Nat) (X Y : Int) (f : List (Int × Int) → List Nat) (pre : List (Int × Int)) (W : World) : Prop := W0.grownBy W (some h) ∧ MaskAt W b h X Y (f pre) ∧ Good X Y (f pre)
theorem fillI_own {W0 : World} {n₁ b h : Nat} {X Y : Int} {f : List (Int × Int) → List Nat} (hn : W0.heap.size ≤ n₁) (hb : b < n₁) (hh : h < n₁) : OwnFrom n₁ (FillI W0 b h X Y f) := fun s C D row hs hg hr =>
  ⟨⟨hg.os.trans hs.1.os, hg.tape.trans hs.1.tape, hg.output.trans hs.1.output, Nat.le_trans hs.1.size hg.size, fun i hi hne => (hg.block i (Nat.lt_of_lt_of_le hi hs.1.size) (fun e => by have := (hr i e.symm).1; omega)).trans (hs.1.block i hi hne)⟩,
   hs.2.1.kept hg (fun e => by have := (hr b e.symm).1; omega) (fun e => by have := (hr h e.symm).1; omega), hs.2.2⟩
theorem FillI.below {W0 W W' : World} {b h : Nat} {X Y : Int} {f : List (Int × Int) → List Nat} {pre : List (Int × Int)} (i : FillI W0 b h X Y f pre W) (hb : Below W.heap.size W W') : FillI W0 b h X Y f pre W' :=
  ⟨i.1.trans (grown_weak (grown_of_below hb) _), i.2.1.below hb, i.2.2⟩

end Go.Proofs.Ytccokdfkmppohaa

/- Sight: what a set holds, cell by cell; what is seen from some cells. -/
namespace Go.Proofs.Ytccokdfkmppohaa
open Go.RowKit

/-- Whether a cell is in a set. -/
def inM (X Y : Int) (bs : List Nat) (c : Int × Int) : Bool := inB X Y c.1 c.2 && bitAt bs (numC X c)
theorem inM_in {X Y : Int} {bs : List Nat} {c : Int × Int} (h : inM X Y bs c = true) : inB X Y c.1 c.2 = true := by unfold inM at h; rw [Bool.and_eq_true] at h; exact h.1
theorem inM_off {X Y : Int} {bs : List Nat} {c : Int × Int} (h : inB X Y c.1 c.2 = false) : inM X Y bs c = false := by unfold inM; rw [h]; rfl
theorem inM_zero (X Y : Int) (n : Nat) (c : Int × Int) : inM X Y (List.replicate n 0) c = false := by
  unfold inM bitAt
  rw [List.getD_eq_getElem?_getD, List.getElem?_replicate]
  split <;> simp

theorem has_all (b h : Nat) (X Y x y : Int) (bs : List Nat) (w : World) (hm : MaskAt w b h X Y bs) (hg : Good X Y bs) :
    Calls Try.prog 22 #[.pointer (some ⟨b, 0, none⟩), .agg #[.int .i64 x, .int .i64 y]] w fun e w' => e = .returned (.bool (inM X Y bs (x, y))) ∧ Below w.heap.size w w' := by
  cases hi : inB X Y x y with
  | false => rw [inM_off (by exact hi)]; exact has_no b h X Y x y bs w hm hi
  | true =>
    have e : inM X Y bs (x, y) = bitAt bs (y * X + x).toNat := by unfold inM numC; simp only [hi, Bool.true_and]
    rw [e]
    exact has_yes b h X Y x y bs w hm hg hi

theorem inM_putAll {X Y : Int} {bs : List Nat} {zs : List (Int × Int)} (g : Good X Y bs) (h : ∀ z ∈ zs, inB X Y z.1 z.2 = true) (c : Int × Int) : inM X Y (putAll X bs zs) c = true ↔ inM X Y bs c = true ∨ c ∈ zs := by
  unfold inM
  rw [Bool.and_eq_true, Bool.and_eq_true, bitAt_putAll zs bs g h]
  constructor
  · rintro ⟨h1, h2 | ⟨z, hz, e⟩⟩
    · exact .inl ⟨h1, h2⟩
    · rw [← numC_inj (h z hz) h1 e]; exact .inr hz
  · rintro (⟨h1, h2⟩ | hz)
    · exact ⟨h1, .inl h2⟩
    · exact ⟨h c hz, .inr ⟨c, hz, rfl⟩⟩
theorem cellAt_num {X Y : Int} {c : Int × Int} (h : inB X Y c.1 c.2 = true) : cellAt X Y (c.2 * X + c.1) = c := by
  obtain ⟨h1, h2, h3, h4, h5, h6, h7, h8⟩ := inB_iff.1 h
  obtain ⟨a1, a2⟩ := idx_lt h
  unfold cellAt
  rw [if_pos (atB_iff.2 ⟨h1, h2, h3, h4, a1, a2⟩)]
  refine Prod.ext ?_ ?_
  · show (c.2 * X + c.1) % X = c.1
    rw [Int.add_comm, Int.add_mul_emod_self_right, Int.emod_eq_of_lt h5 h6]
  · show (c.2 * X + c.1) / X = c.2
    rw [Int.add_comm, Int.add_mul_ediv_right _ _ (by omega), Int.ediv_eq_zero_of_lt h5 h6, Int.zero_add]
theorem cellsM_iff {X Y : Int} {bs : List Nat} (g : Good X Y bs) (c : Int × Int) : c ∈ cellsM X Y bs ↔ inM X Y bs c = true := by
  unfold cellsM
  rw [List.mem_map]
  constructor
  · rintro ⟨i, hi, rfl⟩
    obtain ⟨e1, e2⟩ := num_of_cell g hi
    obtain ⟨h0, hb⟩ := (mem_nums bs i).1 hi
    unfold inM numC
    rw [e1, e2, hb]; rfl
  · intro h
    have hi := inM_in h
    refine ⟨c.2 * X + c.1, ?_, cellAt_num hi⟩
    rw [mem_nums]
    unfold inM at h
    rw [Bool.and_eq_true] at h
    exact ⟨(idx_lt hi).1, h.2⟩
/-- Two sets with the same cells are the same. -/
theorem set_ext {X Y : Int} {cs ds : List Nat} (gc : Good X Y cs) (gd : Good X Y ds) (h : ∀ c, inM X Y cs c = true ↔ inM X Y ds c = true) : cs = ds := by
  refine ext_bits gc.2.2.1 gd.2.2.1 (by have := gc.2.1; have := gd.2.1; omega) fun i _ => ?_
  by_cases hi : X * Y ≤ (i : Int)
  · rw [gc.2.2.2 i hi, gd.2.2.2 i hi]
  · obtain ⟨h1, h2, h3, h4⟩ := mayB_iff.1 gc.1
    have hat : atB X Y i = true := atB_iff.2 ⟨h1, h2, h3, h4, by omega, by omega⟩
    have hin := cellAt_in gc.1 i
    have hn : numC X (cellAt X Y i) = i := by
      unfold numC cellAt
      rw [if_pos hat]
      have := Int.emod_add_mul_ediv i X
      rw [Int.mul_comm] at this
      show (i / X * X + i % X).toNat = i
      omega
    have := h (cellAt X Y i)
    unfold inM at this
    rw [hin, hn, Bool.true_and, Bool.true_and] at this
    rw [Bool.eq_iff_iff]; exact this

/-- Whether one cell sees another one, no farther away than r. -/
def Sees (X Y : Int) (fs : List Int) (r : Int) (e c : Int × Int) : Prop := ∃ q : Int × Int, inB X Y q.1 q.2 = true ∧ (farN e q : Int) ≤ r ∧ c ∈ seenF X fs e.1 e.2 q.1 q.2 (farN e q)
theorem lookBox_iff {X Y : Int} {fs : List Int} {e : Int × Int} (he : inB X Y e.1 e.2 = true) (c : Int × Int) : ∀ (l : List (Int × Int)) (bs : List Nat), Good X Y bs → (inM X Y (lookBox X Y fs e bs l) c = true ↔ inM X Y bs c = true ∨ ∃ q ∈ l, inB X Y q.1 q.2 = true ∧ c ∈ seenF X fs e.1 e.2 q.1 q.2 (farN e q))
  | [], bs, _ => by simp [lookBox]
  | q :: l, bs, g => by
    have ih := lookBox_iff (fs := fs) he c l (lookTo X Y fs e bs q) (g.lookTo he q)
    have e1 : lookBox X Y fs e bs (q :: l) = lookBox X Y fs e (lookTo X Y fs e bs q) l := rfl
    rw [e1, ih]
    have e2 : inM X Y (lookTo X Y fs e bs q) c = true ↔ inM X Y bs c = true ∨ (inB X Y q.1 q.2 = true ∧ c ∈ seenF X fs e.1 e.2 q.1 q.2 (farN e q)) := by
      unfold lookTo
      split
      · rename_i hq
        rw [inM_putAll g (seen_in he hq)]
        simp [hq]
      · rename_i hq
        simp [hq]
    rw [e2]
    simp [or_assoc]
theorem mem_boxOf {X Y r : Int} {e q : Int × Int} (he : inB X Y e.1 e.2 = true) (_ : inB X Y q.1 q.2 = true) (h0 : 0 ≤ r) (h1 : r ≤ 16) : q ∈ boxOf r e ↔ (farN e q : Int) ≤ r := by
  have e0 : boxOf r e = boxCells (e.1 - r) (e.2 - r) (2 * r + 1) (2 * r + 1) := rfl
  obtain ⟨_, _, _, _, a5, a6, a7, a8⟩ := inB_iff.1 he
  rw [e0, mem_boxCells, hasB_iff, rightB_iff]
  unfold farN apartI
  omega
theorem lookAll_iff {X Y r : Int} {fs : List Int} (h0 : 0 ≤ r) (h1 : r ≤ 16) (c : Int × Int) : ∀ (es : List (Int × Int)) (bs : List Nat), (∀ e ∈ es, inB X Y e.1 e.2 = true) → Good X Y bs → (inM X Y (lookAll X Y fs r bs es) c = true ↔ inM X Y bs c = true ∨ ∃ e ∈ es, Sees X Y fs r e c)
  | [], bs, _, _ => by simp [lookAll]
  | e :: es, bs, h, g => by
    have he := h e (by simp)
    have ih := lookAll_iff (fs := fs) h0 h1 c es (lookBox X Y fs e bs (boxOf r e)) (fun x hx => h x (by simp [hx])) (Good.lookBox he _ _ g)
    have e1 : lookAll X Y fs r bs (e :: es) = lookAll X Y fs r (lookBox X Y fs e bs (boxOf r e)) es := rfl
    rw [e1, ih, lookBox_iff he c _ _ g]
    have e2 : (∃ q ∈ boxOf r e, inB X Y q.1 q.2 = true ∧ c ∈ seenF X fs e.1 e.2 q.1 q.2 (farN e q)) ↔ Sees X Y fs r e c := by
      unfold Sees
      constructor
      · rintro ⟨q, hq, hi, hc⟩; exact ⟨q, hi, (mem_boxOf he hi h0 h1).1 hq, hc⟩
      · rintro ⟨q, hi, hf, hc⟩; exact ⟨q, (mem_boxOf he hi h0 h1).2 hf, hi, hc⟩
    rw [e2]
    simp [or_assoc]
/-- What is seen from some cells, as a set's bytes. -/
def allB (X Y : Int) (fs : List Int) (r : Int) (zs : List (Int × Int)) : List Nat := lookAll X Y fs r (List.replicate ((X * Y + 7) / 8).toNat 0) (cellsM X Y (putAll X (List.replicate ((X * Y + 7) / 8).toNat 0) zs))
theorem allB_good {X Y r : Int} {fs : List Int} {zs : List (Int × Int)} (hm : mayB X Y = true) (h : ∀ z ∈ zs, inB X Y z.1 z.2 = true) : Good X Y (allB X Y fs r zs) :=
  Good.lookAll _ _ (fun e he => by
    have g := (good_zero0 hm).putAll zs h
    exact inM_in ((cellsM_iff g e).1 he)) (good_zero0 hm)
theorem allB_iff {X Y r : Int} {fs : List Int} {zs : List (Int × Int)} (hm : mayB X Y = true) (h : ∀ z ∈ zs, inB X Y z.1 z.2 = true) (h0 : 0 ≤ r) (h1 : r ≤ 16) (c : Int × Int) : inM X Y (allB X Y fs r zs) c = true ↔ ∃ e ∈ zs, Sees X Y fs r e c := by
  have g0 := good_zero0 hm
  have g := g0.putAll zs h
  unfold allB
  rw [lookAll_iff h0 h1 c _ _ (fun e he => inM_in ((cellsM_iff g e).1 he)) g0, inM_zero]
  simp only [Bool.false_eq_true, false_or]
  constructor
  · rintro ⟨e, he, hs⟩
    rw [cellsM_iff g, inM_putAll g0 h, inM_zero] at he
    rcases he with he | he
    · cases he
    · exact ⟨e, he, hs⟩
  · rintro ⟨e, he, hs⟩
    exact ⟨e, by rw [cellsM_iff g, inM_putAll g0 h]; exact .inr he, hs⟩
end Go.Proofs.Ytccokdfkmppohaa

/- Sight: All and Visible, whatever they are given. -/
namespace Go.Proofs.Ytccokdfkmppohaa
open Go.RowKit

/-- The error of All. -/
def errA (X Y n r : Int) (zs : List (Int × Int)) : Int := if chkF X Y n ≠ 0 then chkF X Y n else if r < 0 ∨ 16 < r then 1 else if ∀ z ∈ zs, inB X Y z.1 z.2 = true then 0 else 10
theorem errA_ok {X Y n r : Int} {zs : List (Int × Int)} (h : errA X Y n r zs = 0) : chkF X Y n = 0 ∧ 0 ≤ r ∧ r ≤ 16 ∧ ∀ z ∈ zs, inB X Y z.1 z.2 = true := by
  unfold errA at h
  split at h
  · rename_i h1; exact absurd h h1
  · rename_i h1
    split at h
    · cases h
    · rename_i h2
      split at h
      · rename_i h3; exact ⟨Decidable.not_not.1 h1, by omega, by omega, h3⟩
      · cases h
theorem first_bad {X Y : Int} : ∀ {zs : List (Int × Int)}, (¬ ∀ z ∈ zs, inB X Y z.1 z.2 = true) → ∃ (j : Nat) (hj : j < zs.length), (∀ z ∈ zs.take j, inB X Y z.1 z.2 = true) ∧ inB X Y zs[j].1 zs[j].2 = false
  | [], h => absurd (fun z hz => by simp at hz) h
  | z :: zs, h => by
    cases hz : inB X Y z.1 z.2 with
    | false => exact ⟨0, by simp, by simp, hz⟩
    | true =>
      obtain ⟨j, hj, h1, h2⟩ := first_bad (zs := zs) (fun h2 => h fun y hy => by
        rcases List.mem_cons.1 hy with rfl | hy
        · exact hz
        · exact h2 y hy)
      refine ⟨j + 1, by simp; omega, fun y hy => ?_, h2⟩
      rw [List.take_succ_cons] at hy
      rcases List.mem_cons.1 hy with rfl | hy
      · exact hz
      · exact h1 y hy
theorem chk_ok {X Y n : Int} (h : chkF X Y n = 0) : mayB X Y = true ∧ n = X * Y := by
  unfold chkF at h
  split at h
  · rename_i hm
    split at h
    · rename_i hn; exact ⟨hm, hn⟩
    · cases h
  · cases h



end Go.Proofs.Ytccokdfkmppohaa

/- Fields in a block of their own, whose costs grow. -/
namespace Go.Proofs.Ytccokdfkmppohaa
open Go.RowKit

def cellsH (zs : List Int) : List Value := zs.map (Value.int .u16)
theorem cellsH_snoc (zs : List Int) (z : Int) : cellsH (zs ++ [z]) = cellsH zs ++ [.int .u16 z] := by simp [cellsH]
theorem cellsH_one (zs : List Int) : ∀ u ∈ cellsH zs, u.oneCell' = true := by
  intro u hu
  simp only [cellsH, List.mem_map] at hu
  obtain ⟨t, _, rfl⟩ := hu
  rfl
theorem cellsH_len (zs : List Int) : (cellsH zs).length = zs.length := by simp [cellsH]
theorem rowH_of_own {w : World} {base : Nat} {v : Value} {zs : List Int} (h : w.ownsRow base 53 1 v zs.length (cellsH zs)) : ∃ a cap, v = .slice a zs.length cap ∧ RowH w a zs := by
  have hown := h
  rcases h.2 with ⟨rfl, h0⟩ | ⟨g, cap, cur, rfl, hb, hg, _⟩
  · refine ⟨none, 0, by rw [h0], .inl (List.eq_nil_of_length_eq_zero h0)⟩
  · refine ⟨_, cap, rfl, .inr ⟨g, 0, rfl, fun i z hz => ?_⟩⟩
    have a0 := hown.cells (g := g) rfl i (.int .u16 z) (by simp [cellsH, hz])
    rw [addr_add] at a0
    exact a0
theorem Try.infoH : (Try.prog.info? 53).map (fun i => (i.zero, i.size, i.bytes)) = some (some (.int .u16 0), 1, 2) := by kernel_rfl
/-- A field in a block. -/
def FAt (w : World) (k : Nat) (a b c : Value) : Prop := w.heap[k]? = some (.cells #[a, b, c] 37 (0, 0))
section
variable {w : World} {k : Nat} {a b c : Value} (h : FAt w k a b c)
include h
theorem FAt.c0 : w.cell? ⟨k, 0, none⟩ = some a := by unfold FAt at h; simp [World.cell?, h]
theorem FAt.c1 : w.cell? ⟨k, 1, none⟩ = some b := by unfold FAt at h; simp [World.cell?, h]
theorem FAt.c2 : w.cell? ⟨k, 2, none⟩ = some c := by unfold FAt at h; simp [World.cell?, h]
theorem FAt.f0 : w.frozen? ⟨k, 0, none⟩ = false := by unfold FAt at h; simp [World.frozen?, h]
theorem FAt.f1 : w.frozen? ⟨k, 1, none⟩ = false := by unfold FAt at h; simp [World.frozen?, h]
theorem FAt.f2 : w.frozen? ⟨k, 2, none⟩ = false := by unfold FAt at h; simp [World.frozen?, h]
theorem FAt.lt : k < w.heap.size := blk_lt h.c0
theorem FAt.set0 (u : Value) : FAt (w.setCell ⟨k, 0, none⟩ u) k u b c := (heap_setCell_same w k 0 _ _ u h).trans (by simp)
theorem FAt.set1 (u : Value) : FAt (w.setCell ⟨k, 1, none⟩ u) k a u c := (heap_setCell_same w k 1 _ _ u h).trans (by simp)
theorem FAt.set2 (u : Value) : FAt (w.setCell ⟨k, 2, none⟩ u) k a b u := (heap_setCell_same w k 2 _ _ u h).trans (by simp)
theorem FAt.later {w' : World} {n : Nat} (hb : Below n w w') (hk : k < n) : FAt w' k a b c := (hb.block k hk).trans h
theorem FAt.kept {w' : World} {row : Option Nat} (hg : w.grownBy w' row) (hk : some k ≠ row) : FAt w' k a b c := (hg.block k (FAt.lt h) hk).trans h
end
theorem fAt_new (w : World) (a b c : Value) : FAt (w.alloc (.cells #[a, b, c] 37)) w.heap.size a b c := heap_alloc_new w _
/-- A field in a block m, whose costs are a row of its own above n. -/
def FieldG (w : World) (n m : Nat) (X Y : Int) (hs : List Int) : Prop := ∃ v, FAt w m (.int .i64 X) (.int .i64 Y) v ∧ w.ownsRow n 53 1 v hs.length (cellsH hs)
/-- One cost more: behind an append, and a store of what came. -/
theorem FieldG.next {w0 w W w1 : World} {m : Nat} {X Y : Int} {hs : List Int} {v v2 : Value} {z : Int} (h0 : w0.grownBy w (some m)) (hmn : m < w0.heap.size) (hm : FAt w m (.int .i64 X) (.int .i64 Y) v) (hv : w.ownsRow w0.heap.size 53 1 v hs.length (cellsH hs))
    (hb : Below w.heap.size w W) (h2 : w1.ownsRow w0.heap.size 53 1 v2 (hs.length + 1) (cellsH hs ++ [.int .u16 z])) (hg : W.grownBy w1 v.ownBlock) :
    FieldG (w1.setCell ⟨m, 2, none⟩ v2) w0.heap.size m X Y (hs ++ [z]) ∧ w0.grownBy (w1.setCell ⟨m, 2, none⟩ v2) (some m) ∧ FAt w1 m (.int .i64 X) (.int .i64 Y) v := by
  have hlow : ∀ j, v.ownBlock = some j → w0.heap.size ≤ j := fun j e => (hv.lt j e).1
  have hm1 : FAt w1 m (.int .i64 X) (.int .i64 Y) v := (hm.later hb hm.lt).kept hg (fun e => by have := hlow m e.symm; omega)
  refine ⟨⟨v2, hm1.set2 v2, ?_⟩, ⟨(hg.os.trans hb.os).trans h0.os, (hg.tape.trans hb.tape).trans h0.tape, (hg.output.trans hb.output).trans h0.output, by simpa using Nat.le_trans h0.size (Nat.le_trans hb.size hg.size), fun k hk hkm => ?_⟩, hm1⟩
  · rw [List.length_append, cellsH_snoc]
    exact ownsRow_setCell_below h2 (a := ⟨m, 2, none⟩) (by simpa using hmn) v2
  · have hkm2 : k ≠ m := fun e => hkm (by rw [e])
    have hkw := Nat.lt_of_lt_of_le hk h0.size
    refine (Below.heap_setCell _ _ _ k (show k ≠ m from hkm2)).trans ((hg.block k (Nat.lt_of_lt_of_le hkw hb.size) (fun e => ?_)).trans ((hb.block k hkw).trans (h0.block k hk hkm)))
    have := hlow k e.symm
    omega
end Go.Proofs.Ytccokdfkmppohaa
