/- Gates: the laws' helpers. -/
import Derived.Test.YtbdfjdipjacamaaDoorQe
namespace Go.Proofs.YtbdfjdipjacamaaDoor
open Go.RowKit

set_option maxHeartbeats 400000 in
theorem small_g (A B : Int) (a : Option Addr) (n cap : Nat) (w : World) :
    Calls Tryd.prog 22 #[.agg #[.int .i64 A, .int .i64 B, .slice a n cap]] w fun e w' => e = .returned (.bool (decide (n ≤ 260))) ∧ Below w.heap.size w w' := by
  obtain ⟨t, ht⟩ : ∃ t, decide (n ≤ 260) = t := ⟨_, rfl⟩
  have h2 : decide ((n : Int) ≤ 260) = t := by rw [← ht, decide_eq_decide]; omega
  rw [ht]
  clear ht
  go_enter Tryd.func22, Tryd.ntmps22
  go_wp2
  go_ret
  exact ⟨rfl, bl_al (bl0 _) _⟩

def mayX (A B n X Y S : Int) : Int := if fitX A B n X Y ≠ 0 then fitX A B n X Y else if rightP X Y S = true then 0 else 1
set_option maxRecDepth 100000 in
set_option maxHeartbeats 4000000 in
theorem may_g (A B : Int) (a : Option Addr) (n cap : Nat) (X Y S : Int) (w : World) :
    Calls Tryd.prog 25 #[.agg #[.int .i64 A, .int .i64 B, .slice a n cap], .agg #[.int .i64 X, .int .i64 Y, .int .i64 S]] w fun e w' => e = .returned (.int .i64 (mayX A B n X Y S)) ∧ Below w.heap.size w w' := by
  have hA := bl0 w
  have H1 := Lib.hid (fun w => rcheck_any A B a n cap w)
  have H2 := Lib.hid (fun w => rright11 X Y S w)
  have hx : mayX A B n X Y S = if fitX A B n X Y ≠ 0 then fitX A B n X Y else if rightP X Y S = true then 0 else 1 := rfl
  have hf : fitX A B n X Y = if chkF A B n ≠ 0 then chkF A B n else if X = A ∧ Y = B then 0 else 1 := rfl
  generalize mayX A B n X Y S = x at *
  generalize fitX A B n X Y = y at *
  generalize chkF A B n = k at *
  generalize rightP X Y S = r at *
  by_cases h0 : k = 0
  · subst h0
    rw [if_neg (fun h => h rfl)] at hf
    by_cases h1 : X = A
    · subst h1
      have e1 : (X == X) = true := beq_self_eq_true _
      by_cases h2 : Y = B
      · subst h2
        have e2 : (Y == Y) = true := beq_self_eq_true _
        rw [if_pos ⟨rfl, rfl⟩] at hf
        subst hf
        rw [if_neg (fun h => h rfl)] at hx
        cases r
        all_goals
          simp at hx
          subst hx
          go_enter Tryd.func25, Tryd.ntmps25
          go_wp2_with fail
          refine (H1.out _).mono ?_
          rintro e w1 ⟨rfl, hb⟩
          have hk : Below w.heap.size w w1 := by first | exact hb | exact bl_tr (bl_al (bl0 _) _) hb | exact bl_tr (bl_dr (bl_al (bl0 _) _)) hb | exact bl_tr (bl_al (bl_al (bl0 _) _) _) hb | exact bl_tr (bl_dr (bl_al (bl_al (bl0 _) _) _)) hb | exact bl_tr (bl_al (bl_al (bl_al (bl0 _) _) _) _) hb | exact bl_tr (bl_dr (bl_al (bl_al (bl_al (bl0 _) _) _) _)) hb | exact bl_tr (bl_al (bl_al (bl_al (bl_al (bl0 _) _) _) _) _) hb | exact bl_tr (bl_dr (bl_al (bl_al (bl_al (bl_al (bl0 _) _) _) _) _)) hb | exact bl_tr (bl_al (bl_al (bl_al (bl_al (bl_al (bl0 _) _) _) _) _) _) hb | exact bl_tr (bl_dr (bl_al (bl_al (bl_al (bl_al (bl_al (bl0 _) _) _) _) _) _)) hb | exact bl_tr (bl_al (bl_al (bl_al (bl_al (bl_al (bl_al (bl0 _) _) _) _) _) _) _) hb | exact bl_tr (bl_dr (bl_al (bl_al (bl_al (bl_al (bl_al (bl_al (bl0 _) _) _) _) _) _) _)) hb | exact bl_tr (bl_dr (bl0 _)) hb
          replace hA := bl_tr hA hk
          have f0 := cell_later hb (v := .int .i64 X) (a := ⟨w.heap.size, 0, none⟩) (by simp [go_sem])
          have f1 := cell_later hb (v := .int .i64 Y) (a := ⟨w.heap.size, 1, none⟩) (by simp [go_sem])
          have k0 := cell_later hb (v := .int .i64 X) (a := ⟨w.heap.size + 1, 0, none⟩) (by simp [go_sem])
          have k1 := cell_later hb (v := .int .i64 Y) (a := ⟨w.heap.size + 1, 1, none⟩) (by simp [go_sem])
          have k2 := cell_later hb (v := .int .i64 S) (a := ⟨w.heap.size + 1, 2, none⟩) (by simp [go_sem])
          clear hb hk
          have zf0 := blk_lt f0
          have zf1 := blk_lt f1
          have zk0 := blk_lt k0
          have zk1 := blk_lt k1
          have zk2 := blk_lt k2
          go_wp2_with fail
          refine (H2.out _).mono ?_
          rintro e w2 ⟨rfl, hb⟩
          have hk : Below w1.heap.size w1 w2 := by first | exact hb | exact bl_tr (bl_al (bl0 _) _) hb | exact bl_tr (bl_dr (bl_al (bl0 _) _)) hb | exact bl_tr (bl_al (bl_al (bl0 _) _) _) hb | exact bl_tr (bl_dr (bl_al (bl_al (bl0 _) _) _)) hb | exact bl_tr (bl_al (bl_al (bl_al (bl0 _) _) _) _) hb | exact bl_tr (bl_dr (bl_al (bl_al (bl_al (bl0 _) _) _) _)) hb | exact bl_tr (bl_al (bl_al (bl_al (bl_al (bl0 _) _) _) _) _) hb | exact bl_tr (bl_dr (bl_al (bl_al (bl_al (bl_al (bl0 _) _) _) _) _)) hb | exact bl_tr (bl_al (bl_al (bl_al (bl_al (bl_al (bl0 _) _) _) _) _) _) hb | exact bl_tr (bl_dr (bl_al (bl_al (bl_al (bl_al (bl_al (bl0 _) _) _) _) _) _)) hb | exact bl_tr (bl_al (bl_al (bl_al (bl_al (bl_al (bl_al (bl0 _) _) _) _) _) _) _) hb | exact bl_tr (bl_dr (bl_al (bl_al (bl_al (bl_al (bl_al (bl_al (bl0 _) _) _) _) _) _) _)) hb | exact bl_tr (bl_dr (bl0 _)) hb
          replace hA := bl_tr hA hk
          clear hb hk
          go_wp2
          go_ret
          exact ⟨rfl, hA⟩
      · have e2 : (Y == B) = false := by rw [beq_eq_false_iff_ne]; exact h2
        rw [if_neg (fun h => h2 h.2)] at hf
        subst hf
        rw [if_pos (by decide)] at hx
        subst hx
        clear h2
        go_enter Tryd.func25, Tryd.ntmps25
        go_wp2_with fail
        refine (H1.out _).mono ?_
        rintro e w1 ⟨rfl, hb⟩
        have hk : Below w.heap.size w w1 := by first | exact hb | exact bl_tr (bl_al (bl0 _) _) hb | exact bl_tr (bl_dr (bl_al (bl0 _) _)) hb | exact bl_tr (bl_al (bl_al (bl0 _) _) _) hb | exact bl_tr (bl_dr (bl_al (bl_al (bl0 _) _) _)) hb | exact bl_tr (bl_al (bl_al (bl_al (bl0 _) _) _) _) hb | exact bl_tr (bl_dr (bl_al (bl_al (bl_al (bl0 _) _) _) _)) hb | exact bl_tr (bl_al (bl_al (bl_al (bl_al (bl0 _) _) _) _) _) hb | exact bl_tr (bl_dr (bl_al (bl_al (bl_al (bl_al (bl0 _) _) _) _) _)) hb | exact bl_tr (bl_al (bl_al (bl_al (bl_al (bl_al (bl0 _) _) _) _) _) _) hb | exact bl_tr (bl_dr (bl_al (bl_al (bl_al (bl_al (bl_al (bl0 _) _) _) _) _) _)) hb | exact bl_tr (bl_al (bl_al (bl_al (bl_al (bl_al (bl_al (bl0 _) _) _) _) _) _) _) hb | exact bl_tr (bl_dr (bl_al (bl_al (bl_al (bl_al (bl_al (bl_al (bl0 _) _) _) _) _) _) _)) hb | exact bl_tr (bl_dr (bl0 _)) hb
        replace hA := bl_tr hA hk
        have f0 := cell_later hb (v := .int .i64 X) (a := ⟨w.heap.size, 0, none⟩) (by simp [go_sem])
        have f1 := cell_later hb (v := .int .i64 B) (a := ⟨w.heap.size, 1, none⟩) (by simp [go_sem])
        have k0 := cell_later hb (v := .int .i64 X) (a := ⟨w.heap.size + 1, 0, none⟩) (by simp [go_sem])
        have k1 := cell_later hb (v := .int .i64 Y) (a := ⟨w.heap.size + 1, 1, none⟩) (by simp [go_sem])
        have k2 := cell_later hb (v := .int .i64 S) (a := ⟨w.heap.size + 1, 2, none⟩) (by simp [go_sem])
        clear hb hk
        have zf0 := blk_lt f0
        have zf1 := blk_lt f1
        have zk0 := blk_lt k0
        have zk1 := blk_lt k1
        have zk2 := blk_lt k2
        go_wp2
        go_ret
        exact ⟨rfl, hA⟩
    · have e1 : (X == A) = false := by rw [beq_eq_false_iff_ne]; exact h1
      rw [if_neg (fun h => h1 h.1)] at hf
      subst hf
      rw [if_pos (by decide)] at hx
      subst hx
      clear h1
      go_enter Tryd.func25, Tryd.ntmps25
      go_wp2_with fail
      refine (H1.out _).mono ?_
      rintro e w1 ⟨rfl, hb⟩
      have hk : Below w.heap.size w w1 := by first | exact hb | exact bl_tr (bl_al (bl0 _) _) hb | exact bl_tr (bl_dr (bl_al (bl0 _) _)) hb | exact bl_tr (bl_al (bl_al (bl0 _) _) _) hb | exact bl_tr (bl_dr (bl_al (bl_al (bl0 _) _) _)) hb | exact bl_tr (bl_al (bl_al (bl_al (bl0 _) _) _) _) hb | exact bl_tr (bl_dr (bl_al (bl_al (bl_al (bl0 _) _) _) _)) hb | exact bl_tr (bl_al (bl_al (bl_al (bl_al (bl0 _) _) _) _) _) hb | exact bl_tr (bl_dr (bl_al (bl_al (bl_al (bl_al (bl0 _) _) _) _) _)) hb | exact bl_tr (bl_al (bl_al (bl_al (bl_al (bl_al (bl0 _) _) _) _) _) _) hb | exact bl_tr (bl_dr (bl_al (bl_al (bl_al (bl_al (bl_al (bl0 _) _) _) _) _) _)) hb | exact bl_tr (bl_al (bl_al (bl_al (bl_al (bl_al (bl_al (bl0 _) _) _) _) _) _) _) hb | exact bl_tr (bl_dr (bl_al (bl_al (bl_al (bl_al (bl_al (bl_al (bl0 _) _) _) _) _) _) _)) hb | exact bl_tr (bl_dr (bl0 _)) hb
      replace hA := bl_tr hA hk
      have f0 := cell_later hb (v := .int .i64 A) (a := ⟨w.heap.size, 0, none⟩) (by simp [go_sem])
      have f1 := cell_later hb (v := .int .i64 B) (a := ⟨w.heap.size, 1, none⟩) (by simp [go_sem])
      have k0 := cell_later hb (v := .int .i64 X) (a := ⟨w.heap.size + 1, 0, none⟩) (by simp [go_sem])
      have k1 := cell_later hb (v := .int .i64 Y) (a := ⟨w.heap.size + 1, 1, none⟩) (by simp [go_sem])
      have k2 := cell_later hb (v := .int .i64 S) (a := ⟨w.heap.size + 1, 2, none⟩) (by simp [go_sem])
      clear hb hk
      have zf0 := blk_lt f0
      have zf1 := blk_lt f1
      have zk0 := blk_lt k0
      have zk1 := blk_lt k1
      have zk2 := blk_lt k2
      go_wp2
      go_ret
      exact ⟨rfl, hA⟩
  · rw [if_pos h0] at hf
    subst hf
    rw [if_pos h0] at hx
    subst hx
    have h1 : (x == 0) = false := by rw [beq_eq_false_iff_ne]; exact h0
    clear h0
    go_enter Tryd.func25, Tryd.ntmps25
    go_wp2_with fail
    refine (H1.out _).mono ?_
    rintro e w1 ⟨rfl, hb⟩
    have hk : Below w.heap.size w w1 := by first | exact hb | exact bl_tr (bl_al (bl0 _) _) hb | exact bl_tr (bl_dr (bl_al (bl0 _) _)) hb | exact bl_tr (bl_al (bl_al (bl0 _) _) _) hb | exact bl_tr (bl_dr (bl_al (bl_al (bl0 _) _) _)) hb | exact bl_tr (bl_al (bl_al (bl_al (bl0 _) _) _) _) hb | exact bl_tr (bl_dr (bl_al (bl_al (bl_al (bl0 _) _) _) _)) hb | exact bl_tr (bl_al (bl_al (bl_al (bl_al (bl0 _) _) _) _) _) hb | exact bl_tr (bl_dr (bl_al (bl_al (bl_al (bl_al (bl0 _) _) _) _) _)) hb | exact bl_tr (bl_al (bl_al (bl_al (bl_al (bl_al (bl0 _) _) _) _) _) _) hb | exact bl_tr (bl_dr (bl_al (bl_al (bl_al (bl_al (bl_al (bl0 _) _) _) _) _) _)) hb | exact bl_tr (bl_al (bl_al (bl_al (bl_al (bl_al (bl_al (bl0 _) _) _) _) _) _) _) hb | exact bl_tr (bl_dr (bl_al (bl_al (bl_al (bl_al (bl_al (bl_al (bl0 _) _) _) _) _) _) _)) hb | exact bl_tr (bl_dr (bl0 _)) hb
    replace hA := bl_tr hA hk
    clear hb hk
    go_wp2
    go_ret
    exact ⟨rfl, hA⟩

set_option maxRecDepth 100000 in
set_option maxHeartbeats 4000000 in
theorem same_t (a a2 : Option Addr) (cap cap2 : Nat) (xs : List (IC × IC)) (w : World) (hr : RowPP w a xs) (hr2 : RowPP w a2 xs) (hl : xs.length ≤ 1048576) :
    Calls Tryd.prog 27 #[.slice a xs.length cap, .slice a2 xs.length cap2] w fun e w' => e = .returned (.bool true) ∧ Below w.heap.size w w' := by
  have hl2 : (xs.length : Int) ≤ 1048576 := by omega
  have h1 : ((xs.length : Int) != (xs.length : Int)) = false := by rw [bne_eq_false_iff_eq]
  have hA0 := bl0 w
  go_enter Tryd.func27, Tryd.ntmps27
  go_wp2
  go_loopw [5] (fun i wr => ∃ k : Nat, k ≤ xs.length ∧ i = .int .i64 k ∧ Below w.heap.size w wr) (fun i _ => xs.length - (intOf i).toNat)
  case atStart => exact ⟨0, Nat.zero_le _, rfl, hA0⟩
  case round =>
    obtain ⟨k, hk, rfl, hB⟩ := hrel
    clear hA0
    by_cases hlt : k < xs.length
    · have hlt2 : (k : Int) < (xs.length : Int) := by omega
      have hk0 : (0 : Int) ≤ (k : Int) := by omega
      obtain ⟨gb, go, rfl, ⟨q0, q1⟩, q2, q3⟩ := hr.cell hlt
      obtain ⟨gb2, go2, rfl, ⟨r0, r1⟩, r2, r3⟩ := hr2.cell hlt
      replace q0 := cell_later hB q0; replace q1 := cell_later hB q1; replace q2 := cell_later hB q2; replace q3 := cell_later hB q3
      replace r0 := cell_later hB r0; replace r1 := cell_later hB r1; replace r2 := cell_later hB r2; replace r3 := cell_later hB r3
      clear hr hr2
      generalize xs[k] = x at *
      have n0 : (x.1.1 == x.1.1) = true := beq_self_eq_true _
      have n1 : (x.1.2 == x.1.2) = true := beq_self_eq_true _
      have n2 : (x.2.1 == x.2.1) = true := beq_self_eq_true _
      have n3 : (x.2.2 == x.2.2) = true := beq_self_eq_true _
      go_wp2
      go_quiet (fail)
      go_wp2
      go_roundw
      case rel => exact ⟨k + 1, by omega, by go_num, bl_tr hB (bl_drn _ _)⟩
      case measure => simp [intOf]; omega
    · have hge : (xs.length : Int) ≤ (k : Int) := by omega
      go_wp2
      go_ret
      exact ⟨rfl, hB⟩

/-! The chapter's example. -/
def zAg : List Int := [1, 1, 1, 1, 1, 0, 1, 1, 1, 1, 1, 1, 1, 1, 1, 1]
theorem rowh_lit {W : World} {b : Nat} {cs : Array Value} {t : TypeId} {zs : List Int} (h : W.heap[b]? = some (.cells cs t (0, 0))) (hc : cs = (zs.map (Value.int .u16)).toArray) : RowH W (some ⟨b, 0, none⟩) zs := by
  refine .inr ⟨b, 0, rfl, fun i z hz => ?_⟩
  rw [Nat.zero_add]
  simp only [World.cell?, h, hc]
  simp [hz]
theorem rowPP_lit {W : World} {b : Nat} {cs : Array Value} {t : TypeId} {zs : List (IC × IC)} (h : W.heap[b]? = some (.cells cs t (0, 0))) (hc : cs = (flatPP zs).toArray) : RowPP W (some ⟨b, 0, none⟩) zs := by
  refine .inr ⟨b, 0, rfl, fun i z hz => ?_⟩
  obtain ⟨⟨e0, e1⟩, e2, e3⟩ := flatPP_at zs i z hz
  rw [Nat.zero_add]
  simp only [World.cell?, h, hc]
  simp [e0, e1, e2, e3]
theorem aw_1 : btwX 4 4 (16 : Nat) 4 4 2 0 1 = 0 ∧ btwL 4 4 zAg 4 4 2 0 1 = [((1, 0), (2, 0))] := by constructor <;> rfl
theorem aw_2 : btwX 4 4 (16 : Nat) 4 4 2 2 0 = 0 ∧ btwL 4 4 zAg 4 4 2 2 0 = [((0, 1), (0, 2))] := by constructor <;> rfl
theorem aw_3 : btwX 4 4 (16 : Nat) 4 4 2 1 3 = 0 ∧ btwL 4 4 zAg 4 4 2 1 3 = [((2, 1), (2, 2))] := by constructor <;> rfl
end Go.Proofs.YtbdfjdipjacamaaDoor
