/- Parts: the reference's border of two. -/
import Derived.Test.YtbdfjdipjacamaaDoorDt
namespace Go.Proofs.YtbdfjdipjacamaaDoor
open Go.RowKit

/-- What is found of a cell in the first directions. -/
def dirL (has : IC → Bool) (c : IC) : Nat → List (IC × IC)
  | 0 => []
  | 1 => []
  | d + 2 => dirL has c (d + 1) ++ stpL has c (d + 1)
theorem dirL_succ (has : IC → Bool) (c : IC) {d : Nat} (h : 1 ≤ d) : dirL has c (d + 1) = dirL has c d ++ stpL has c d := by
  obtain ⟨e, rfl⟩ : ∃ e, d = e + 1 := ⟨d - 1, by omega⟩
  rfl
theorem dirL_3 (has : IC → Bool) (c : IC) : dirL has c 3 = celL has c := rfl
def refB (W H S a b : Int) : List (IC × IC) :=
  if a = b then [] else brdL (hasP W H S (plcP W S (max a b))) (bxX S (plcP W S (min a b))) (bxY S (plcP W S (min a b))) (bxW W S (plcP W S (min a b))).toNat (bxH H S (plcP W S (min a b))).toNat
theorem stpL_le (has : IC → Bool) (c : IC) (d : Nat) : (stpL has c d).length ≤ 1 := by unfold stpL; split <;> simp
theorem celL_le (has : IC → Bool) (c : IC) : (celL has c).length ≤ 2 := by
  unfold celL
  rw [List.length_append]
  have := stpL_le has c 1
  have := stpL_le has c 2
  omega
theorem dirL_le (has : IC → Bool) (c : IC) {d : Nat} (h : d ≤ 3) : (dirL has c d).length ≤ 2 := by
  have h1 := stpL_le has c 1
  have h2 := celL_le has c
  match d, h with
  | 0, _ => simp [dirL]
  | 1, _ => simp [dirL]
  | 2, _ => (show (dirL has c 1 ++ stpL has c 1).length ≤ 2; simp [dirL]; omega)
  | 3, _ => exact h2
theorem rowL_le (has : IC → Bool) (X y : Int) : ∀ n : Nat, (rowL has X y n).length ≤ 2 * n
  | 0 => by simp [rowL]
  | n + 1 => by
    have := rowL_le has X y n
    have := celL_le has (X + n, y)
    rw [rowL_succ, List.length_append]
    omega
theorem brdL_le (has : IC → Bool) (X Y : Int) (n : Nat) : ∀ m : Nat, (brdL has X Y n m).length ≤ 2 * n * m
  | 0 => by simp [brdL]
  | m + 1 => by
    have := brdL_le has X Y n m
    have := rowL_le has X (Y + m) n
    rw [brdL_succ, List.length_append, Nat.mul_succ]
    omega

set_option maxRecDepth 100000 in
set_option maxHeartbeats 8000000 in
theorem border11_lt (W H S : Int) (a : Option Addr) (cap f g : Nat) (w : World) (hr : rightP W H S = true) (hf : f < cntN W H S) (hg : g < cntN W H S) (hrow : RowPP w a (boxL W H S)) (hfg : (f : Int) < g) :
    Calls Tryd.prog 67 #[.slice a (cntN W H S) cap, .int .i64 f, .int .i64 g] w (BxsR (brdL (hasP W H S (plcP W S g)) (bxX S (plcP W S f)) (bxY S (plcP W S f)) (bxW W S (plcP W S f)).toNat (bxH H S (plcP W S f)).toNat) w) := by
  obtain ⟨i0, hi, hz0, hz1, hz2⟩ := info_parts Tryd.infoPP
  obtain ⟨hn, n1, n2⟩ := cntN_eq hr
  obtain ⟨p1, p2, p3, p4, _⟩ := plc_in (id := (f : Int)) hr (by omega) (by omega)
  obtain ⟨⟨t1, t2, t3, t4⟩, ⟨t5, t6, t7, t8⟩, t9, t10⟩ := bx_bd hr p1 p2 p3 p4
  have HHAS := Lib.hid (fun (c : IC) (hc : w64 c.1 ∧ w64 c.2) w => (show Calls Tryd.prog 19 #[.agg #[.int .i64 (bxF W H S g).1.1, .int .i64 (bxF W H S g).1.2, .int .i64 (bxF W H S g).2.1, .int .i64 (bxF W H S g).2.2], .agg #[.int .i64 c.1, .int .i64 c.2]] w fun e w' => e = .returned (.bool (hasP W H S (plcP W S g) c)) ∧ Below w.heap.size w w' from has8_k c hr hg hc w))
  have hbx : bxF W H S f = ((bxX S (plcP W S f), bxY S (plcP W S f)), (bxW W S (plcP W S f), bxH H S (plcP W S f))) := rfl
  have HZ := Lib.hid (fun j (h : j < (boxL W H S).length) => boxL_at h)
  have HBL := Lib.hid (boxL_len W H S)
  obtain ⟨U, hU⟩ : ∃ U : Nat, bxW W S (plcP W S f) = U := ⟨(bxW W S (plcP W S f)).toNat, by omega⟩
  obtain ⟨V, hV⟩ : ∃ V : Nat, bxH H S (plcP W S f) = V := ⟨(bxH H S (plcP W S f)).toNat, by omega⟩
  rw [hU] at hbx t5 t6 t9 ⊢
  rw [hV] at hbx t7 t8 t10 ⊢
  simp only [Int.toNat_natCast]
  have HBX := Lib.hid hbx
  have HROW := Lib.hid hrow
  obtain ⟨n, hnn⟩ : ∃ n, cntN W H S = n := ⟨_, rfl⟩
  rw [hnn] at hf hg HBL ⊢
  obtain ⟨has, hhas⟩ : ∃ has, hasP W H S (plcP W S g) = has := ⟨_, rfl⟩
  rw [hhas] at HHAS ⊢
  generalize bxX S (plcP W S f) = X at *
  generalize bxY S (plcP W S f) = Y at *
  have hX2 : X + U ≤ 600 := by omega
  have hY2 : Y + V ≤ 600 := by omega
  clear hU hV hn n1 n2 hnn hhas p1 p2 p3 p4 hbx t9 t10 hr hrow
  have hf0 : (0 : Int) ≤ (f : Int) := by omega
  have hf2 : (f : Int) < (n : Int) := by omega
  have hg0 : (0 : Int) ≤ (g : Int) := by omega
  have hg2 : (g : Int) < (n : Int) := by omega
  have hwx : IntKind.i64.wrap (X + U) = X + U := IntWalk.i64_in _ (by omega)
  have hwy : IntKind.i64.wrap (Y + V) = Y + V := IntWalk.i64_in _ (by omega)
  have hA := bl0 w
  have n1 : ((f : Int) == (g : Int)) = false := by rw [beq_eq_false_iff_ne]; omega
  have n2 : ((g : Int) == (f : Int)) = false := by rw [beq_eq_false_iff_ne]; omega
  have n3 : decide ((g : Int) < (f : Int)) = false := decide_eq_false (by omega)
  have n4 : decide (g < f) = false := decide_eq_false (by omega)
  have n5 : decide ((f : Int) < (g : Int)) = true := decide_eq_true (by omega)
  have n6 : decide (f < g) = true := decide_eq_true (by omega)
  go_enter Tryd.func67, Tryd.ntmps67
  obtain ⟨gb, go, rfl, ⟨q0, q1⟩, q2, q3⟩ := HROW.out.cell (k := f) (by rw [HBL.out]; exact hf)
  obtain ⟨gb', go', hh, ⟨r0, r1⟩, r2, r3⟩ := HROW.out.cell (k := g) (by rw [HBL.out]; exact hg)
  cases hh
  rw [HZ.out, HBX.out] at q0 q1 q2 q3
  rw [HZ.out] at r0 r1 r2 r3
  simp only at q0 q1 q2 q3
  generalize bxF W H S g = z at *
  have zq := blk_lt q0
  have Q0 := Lib.hid q0; have Q1 := Lib.hid q1; have Q2 := Lib.hid q2; have Q3 := Lib.hid q3
  have R0 := Lib.hid r0; have R1 := Lib.hid r1; have R2 := Lib.hid r2; have R3 := Lib.hid r3
  clear HROW
  go_wp2_with fail
  clear q0 q1 q2 q3 r0 r1 r2 r3 zq
  go_loopw [7, 8, 9, 10, 11, 12] (fun o yv _ _ _ _ wr => ∃ j : Nat, j ≤ V ∧ yv = .int .i64 (Y + j) ∧ wr.ownsRow w.heap.size 117 4 o (brdL has X Y U j).length (flatPP (brdL has X Y U j)) ∧ Below w.heap.size w wr) (fun _ yv _ _ _ _ _ => (Y + V - intOf yv).toNat)
  case atStart => exact ⟨0, Nat.zero_le _, by simp, own_empty4 w 117 w.heap.size (Nat.le_refl _), bl_al hA _⟩
  case round =>
    clear hA
    obtain ⟨j, hj, rfl, hown, hA⟩ := hrel
    have q0 := cell_later hA Q0.out; have q1 := cell_later hA Q1.out; have q2 := cell_later hA Q2.out; have q3 := cell_later hA Q3.out
    have zq := blk_lt q0
    obtain ⟨y, hy⟩ : ∃ y, Y + (j : Int) = y := ⟨_, rfl⟩
    have HYN := Lib.hid (show Y + ((j + 1 : Nat) : Int) = y + 1 by rw [← hy]; omega)
    have hy0 : 0 ≤ y := by omega
    have hy6 : y ≤ 600 := by omega
    have hbr := brdL_succ has X Y U j
    rw [hy] at hbr ⊢
    have HBR := Lib.hid hbr
    have hle := brdL_le has X Y U j
    have hule : 2 * U * j ≤ 2 * 16 * 16 := Nat.mul_le_mul (by omega) (by omega)
    have HYE := Lib.hid hy
    by_cases hlt : j < V
    · have hly : y < Y + V := by omega
      have dly : decide (y < Y + (V : Int)) = true := decide_eq_true hly
      clear hy hbr
      go_wp2
      go_quiet (fail)
      obtain ⟨W2, hW2⟩ : ∃ W2, wr.drewN nq = W2 := ⟨_, rfl⟩
      have hk2 : Below wr.heap.size wr W2 := by rw [← hW2]; exact bl_drn wr nq
      rw [hW2]
      clear hW2
      replace hA := bl_tr hA hk2
      replace hown := own_later hown hk2
      clear hk2 q0 q1 q2 q3 zq
      have q0 := cell_later hA Q0.out; have q1 := cell_later hA Q1.out; have q2 := cell_later hA Q2.out; have q3 := cell_later hA Q3.out
      have zq := blk_lt q0
      have hB2 := hA
      go_wp2_with fail
      obtain ⟨L, hL⟩ : ∃ L, brdL has X Y U j = L := ⟨_, rfl⟩
      rw [hL] at hown HBR hle
      clear hL
      have HOWN := Lib.hid hown
      clear q0 q1 q2 q3 zq hown hA
      go_loopw [7, 9, 10, 11, 12] (fun o xv _ _ _ wr => ∃ i : Nat, i ≤ U ∧ xv = .int .i64 (X + i) ∧ wr.ownsRow w.heap.size 117 4 o (L ++ rowL has X y i).length (flatPP (L ++ rowL has X y i)) ∧ Below w.heap.size w wr) (fun _ xv _ _ _ _ => (X + U - intOf xv).toNat)
      case atStart => exact ⟨0, Nat.zero_le _, by simp, by rw [show L ++ rowL has X y 0 = L by simp [rowL]]; exact HOWN.out, hB2⟩
      case round =>
        obtain ⟨i, hii, rfl, hown, hA⟩ := hrel
        have q0 := cell_later hA Q0.out; have q1 := cell_later hA Q1.out; have q2 := cell_later hA Q2.out; have q3 := cell_later hA Q3.out
        have zq := blk_lt q0
        obtain ⟨x, hx⟩ : ∃ x, X + (i : Int) = x := ⟨_, rfl⟩
        have HXN := Lib.hid (show X + ((i + 1 : Nat) : Int) = x + 1 by rw [← hx]; omega)
        have hx0 : 0 ≤ x := by omega
        have hx6 : x ≤ 600 := by omega
        have hrw := rowL_succ has X y i
        rw [hx] at hrw ⊢
        have HRW := Lib.hid hrw
        have hrle := rowL_le has X y i
        by_cases hli : i < U
        · have hlx : x < X + U := by omega
          have dlx : decide (x < X + (U : Int)) = true := decide_eq_true hlx
          clear hx hrw
          go_wp2
          go_quiet (fail)
          obtain ⟨W2, hW2⟩ : ∃ W2, wr.drewN nq = W2 := ⟨_, rfl⟩
          have hk2 : Below wr.heap.size wr W2 := by rw [← hW2]; exact bl_drn wr nq
          rw [hW2]
          clear hW2
          replace hA := bl_tr hA hk2
          replace hown := own_later hown hk2
          clear hk2 q0 q1 q2 q3 zq
          have hB3 := hA
          go_wp2_with fail
          obtain ⟨L2, hL2⟩ : ∃ L2, L ++ rowL has X y i = L2 := ⟨_, rfl⟩
          have hl2 : L2.length ≤ 1000 := by rw [← hL2, List.length_append]; omega
          have HR2 := Lib.hid (show L ++ rowL has X y (i + 1) = L2 ++ celL has (x, y) by rw [← hL2, HRW.out, List.append_assoc])
          rw [hL2] at hown
          clear hL2
          have HOWN2 := Lib.hid hown
          have HC := Lib.hid (fun (d : Nat) (h1 : 1 ≤ d) => dirL_succ has (x, y) h1)
          have HCL := Lib.hid (fun (d : Nat) (h1 : d ≤ 3) => dirL_le has (x, y) h1)
          clear hown hA
          go_loopw [7, 10, 11, 12] (fun o dv _ _ wr => ∃ d : Nat, 1 ≤ d ∧ d ≤ 3 ∧ dv = .int .i64 d ∧ wr.ownsRow w.heap.size 117 4 o (L2 ++ dirL has (x, y) d).length (flatPP (L2 ++ dirL has (x, y) d)) ∧ Below w.heap.size w wr) (fun _ dv _ _ _ => 3 - (intOf dv).toNat)
          case atStart => exact ⟨1, by omega, by omega, rfl, by rw [show L2 ++ dirL has (x, y) 1 = L2 by simp [dirL]]; exact HOWN2.out, hB3⟩
          case round =>
            obtain ⟨d, hd1, hd3, rfl, hown, hA⟩ := hrel
            have hd0 : (0 : Int) ≤ (d : Int) := by omega
            have hdl := HCL.out d hd3
            by_cases hld : d ≤ 2
            · have hld2 : (d : Int) ≤ 2 := by omega
              have dld : decide ((d : Int) ≤ 2) = true := decide_eq_true hld2
              obtain ⟨L3, hL3⟩ : ∃ L3, L2 ++ dirL has (x, y) d = L3 := ⟨_, rfl⟩
              have hl3 : L3.length ≤ 1002 := by rw [← hL3, List.length_append]; omega
              obtain ⟨nx, hnx⟩ : ∃ nx, stepI (x, y) d = nx := ⟨_, rfl⟩
              have hst := fun w => step8_p x y d w ⟨by omega, by omega, by omega, by omega⟩ (by omega) (by omega)
              have hnw : w64 nx.1 ∧ w64 nx.2 := by
                rw [← hnx]
                unfold stepI dxI dyI w64
                refine ⟨⟨?_, ?_⟩, ?_, ?_⟩ <;> simp only <;> (repeat' split) <;> omega
              have hhs := HHAS.out nx hnw
              have HD := Lib.hid (show L2 ++ dirL has (x, y) (d + 1) = L3 ++ (if has nx = true then [((x, y), nx)] else []) by
                rw [HC.out d hd1, ← List.append_assoc, hL3]; unfold stpL; rw [hnx])
              rw [hnx] at hst
              rw [hL3] at hown
              obtain ⟨t, ht⟩ : ∃ t, has nx = t := ⟨_, rfl⟩
              rw [ht] at hhs HD
              have HST := Lib.hid hst
              have HHS := Lib.hid hhs
              clear hL3 hnx hst hnw hhs ht hdl
              obtain ⟨va, vc, rfl, hcp⟩ := own_shape hown
              obtain ⟨m, hm⟩ : ∃ m, L3.length = m := ⟨_, rfl⟩
              rw [hm] at hown hcp hl3 ⊢
              have HM := Lib.hid hm
              clear hm
              go_wp2_with fail
              refine (HST.out _).mono ?_
              rintro e w3 ⟨rfl, hb⟩
              have hk : Below wr.heap.size wr w3 := bl_tr (bl_al (bl0 _) _) hb
              have k0 := cell_later hb (v := .int .i64 x) (a := ⟨wr.heap.size, 0, none⟩) (by simp [go_sem])
              have k1 := cell_later hb (v := .int .i64 y) (a := ⟨wr.heap.size, 1, none⟩) (by simp [go_sem])
              have zk := blk_lt k0
              have hbs := hA.size
              replace hA := bl_tr hA hk
              replace hown := own_later hown hk
              have r0 := cell_later hA R0.out; have r1 := cell_later hA R1.out; have r2 := cell_later hA R2.out; have r3 := cell_later hA R3.out
              have zr := blk_lt r0
              clear hb hk
              go_upto_region 17 with fail
              have hB := bl_dr (bl_al (bl0 w3) (.cells #[.int .i64 nx.1, .int .i64 nx.2] 30))
              go_region_held3 (fun w' => w'.cell? ⟨w3.heap.size, 0, none⟩ = some (.int .i64 nx.1) ∧ w'.cell? ⟨w3.heap.size, 1, none⟩ = some (.int .i64 nx.2) ∧ (w'.cell? ⟨gb, go + g * 4, none⟩ = some (.int .i64 z.1.1) ∧ w'.cell? ⟨gb, go + g * 4 + 1, none⟩ = some (.int .i64 z.1.2)) ∧ w'.cell? ⟨gb, go + g * 4 + 2, none⟩ = some (.int .i64 z.2.1) ∧ w'.cell? ⟨gb, go + g * 4 + 3, none⟩ = some (.int .i64 z.2.2))
                (first | exact ⟨m0, m1, ⟨cell_later hB r0, cell_later hB r1⟩, cell_later hB r2, cell_later hB r3⟩ | exact ⟨by simp [go_sem], by simp [go_sem], ⟨cell_later hB r0, cell_later hB r1⟩, cell_later hB r2, cell_later hB r3⟩)
                ((go_at_call 19; (with_reducible refine (HHS.out _).mono ?_); rintro e w4 ⟨rfl, hb9⟩; have m0 := cell_later hb9 (v := .int .i64 nx.1) (a := ⟨w3.heap.size, 0, none⟩) (by simp [go_sem]); have m1 := cell_later hb9 (v := .int .i64 nx.2) (a := ⟨w3.heap.size, 1, none⟩) (by simp [go_sem]); replace hB := bl_tr hB hb9))
              all_goals
                replace hA := bl_tr hA hB
                replace hown := own_later hown hB
                replace k0 := cell_later hB k0
                replace k1 := cell_later hB k1
                replace zk := blk_lt k0
                have zm := blk_lt m0
                clear hB r0 r1 r2 r3 zr
                cases t
                · have hd2 : L2 ++ dirL has (x, y) (d + 1) = L3 := by rw [HD.out, if_neg (by decide), List.append_nil]
                  have HD2 := Lib.hid hd2
                  clear hd2
                  go_wp2
                  go_roundw
                  case rel => exact ⟨d + 1, by omega, by omega, by go_num, by rw [HD2.out, HM.out]; exact hown, hA⟩
                  case measure => simp [intOf]; omega
                · have hd2 : L2 ++ dirL has (x, y) (d + 1) = L3 ++ [((x, y), nx)] := by rw [HD.out, if_pos rfl]
                  have HD2 := Lib.hid hd2
                  clear hd2
                  go_wp2_with (at_builtin; refine wpList_append_own _ rfl _ _ 103 rfl w.heap.size 117 i0 (.agg #[.int .i64 0, .int .i64 0, .int .i64 0, .int .i64 0]) 4 32 Tryd.underlying103 hi hz0 hz1 hz2 rfl (by decide) _ _ _ rfl (hown.alloc _) ⟨w4.heap.size, 0, none⟩ 1 1 [.int .i64 x, .int .i64 y, .int .i64 nx.1, .int .i64 nx.2] rfl rfl ?c1 ?c2 ?c3 ?c4 ?c5 ?_)
                  try case c1 => exact cell_four w4 (.int .i64 x) (.int .i64 y) (.int .i64 nx.1) (.int .i64 nx.2) 117
                  case c2 => (first | exact ⟨rfl, rfl, rfl, rfl⟩ | (intro u' hu; simp at hu; rcases hu with rfl | rfl | rfl | rfl <;> rfl))
                  case c3 => unfold maxLen; omega
                  case c4 => omega
                  case c5 => (have := hA.size; simp; omega)
                  intro v' w5 hown' hgrow _
                  have hB5 : Below w.heap.size w w5 := (bl_al hA (.cells #[.int .i64 x, .int .i64 y, .int .i64 nx.1, .int .i64 nx.2] 117)).grown hgrow (by have := hA.size; simp; omega) (fun j hj => by have := (hown.lt j hj).1; omega)
                  rw [← flatPP_snoc L3 ((x, y), nx), ← HD2.out] at hown'
                  have hlen : m + 1 = (L2 ++ dirL has (x, y) (d + 1)).length := by rw [HD2.out, List.length_append, HM.out]; rfl
                  rw [hlen] at hown'
                  clear hgrow hown hA hlen k0 k1 m0 m1 zk zm
                  go_wp2
                  go_roundw
                  case rel => exact ⟨d + 1, by omega, by omega, by go_num, hown', hB5⟩
                  case measure => simp [intOf]; omega
            · obtain rfl : d = 3 := by omega
              have h3 : L2 ++ dirL has (x, y) 3 = L ++ rowL has X y (i + 1) := by rw [HR2.out, dirL_3]
              rw [h3] at hown
              clear h3
              go_wp2
              go_roundw
              case rel => exact ⟨i + 1, by omega, by rw [HXN.out]; try go_num, hown, hA⟩
              case measure => simp [intOf]; omega
        · obtain rfl : i = U := by omega
          have hge : ¬ x < X + i := by omega
          have dge : decide (x < X + (i : Int)) = false := decide_eq_false hge
          have hbb : brdL has X Y i (j + 1) = L ++ rowL has X y i := HBR.out
          have HBB := Lib.hid hbb
          clear hx hrw hbb
          go_wp2
          go_quiet (fail)
          obtain ⟨W2, hW2⟩ : ∃ W2, wr.drewN nq = W2 := ⟨_, rfl⟩
          have hk2 : Below wr.heap.size wr W2 := by rw [← hW2]; exact bl_drn wr nq
          rw [hW2]
          clear hW2
          replace hA := bl_tr hA hk2
          replace hown := own_later hown hk2
          clear hk2 q0 q1 q2 q3 zq
          go_wp2
          go_roundw
          case rel => exact ⟨j + 1, by omega, by rw [HYN.out]; try go_num, by rw [HBB.out]; exact hown, hA⟩
          case measure => simp [intOf]; omega
    · obtain rfl : j = V := by omega
      have hge : ¬ y < Y + j := by omega
      have dge : decide (y < Y + (j : Int)) = false := decide_eq_false hge
      obtain ⟨va, vc, rfl, hcp⟩ := own_shape hown
      clear hy hbr
      go_wp2
      go_quiet (fail)
      obtain ⟨W2, hW2⟩ : ∃ W2, wr.drewN nq = W2 := ⟨_, rfl⟩
      have hk2 : Below wr.heap.size wr W2 := by rw [← hW2]; exact bl_drn wr nq
      rw [hW2]
      clear hW2
      replace hA := bl_tr hA hk2
      replace hown := own_later hown hk2
      clear hk2 q0 q1 q2 q3 zq
      have hrow : RowPP W2 va (brdL has X Y U j) := rowPP_of_own (cap := vc) hown
      have HR := Lib.hid (show ∀ e, e = Ending.returned (.slice va (brdL has X Y U j).length vc) → BxsR (brdL has X Y U j) w e W2 from fun e he => ⟨va, vc, he, hrow, hA⟩)
      obtain ⟨m, hm⟩ : ∃ m, (brdL has X Y U j).length = m := ⟨_, rfl⟩
      rw [hm] at HR ⊢
      clear hown hrow hm hle
      go_wp2
      go_ret
      exact HR.out _ rfl
set_option maxRecDepth 100000 in
set_option maxHeartbeats 8000000 in
theorem border11_gt (W H S : Int) (a : Option Addr) (cap f g : Nat) (w : World) (hr : rightP W H S = true) (hf : f < cntN W H S) (hg : g < cntN W H S) (hrow : RowPP w a (boxL W H S)) (hfg : (f : Int) < g) :
    Calls Tryd.prog 67 #[.slice a (cntN W H S) cap, .int .i64 g, .int .i64 f] w (BxsR (brdL (hasP W H S (plcP W S g)) (bxX S (plcP W S f)) (bxY S (plcP W S f)) (bxW W S (plcP W S f)).toNat (bxH H S (plcP W S f)).toNat) w) := by
  obtain ⟨i0, hi, hz0, hz1, hz2⟩ := info_parts Tryd.infoPP
  obtain ⟨hn, n1, n2⟩ := cntN_eq hr
  obtain ⟨p1, p2, p3, p4, _⟩ := plc_in (id := (f : Int)) hr (by omega) (by omega)
  obtain ⟨⟨t1, t2, t3, t4⟩, ⟨t5, t6, t7, t8⟩, t9, t10⟩ := bx_bd hr p1 p2 p3 p4
  have HHAS := Lib.hid (fun (c : IC) (hc : w64 c.1 ∧ w64 c.2) w => (show Calls Tryd.prog 19 #[.agg #[.int .i64 (bxF W H S g).1.1, .int .i64 (bxF W H S g).1.2, .int .i64 (bxF W H S g).2.1, .int .i64 (bxF W H S g).2.2], .agg #[.int .i64 c.1, .int .i64 c.2]] w fun e w' => e = .returned (.bool (hasP W H S (plcP W S g) c)) ∧ Below w.heap.size w w' from has8_k c hr hg hc w))
  have hbx : bxF W H S f = ((bxX S (plcP W S f), bxY S (plcP W S f)), (bxW W S (plcP W S f), bxH H S (plcP W S f))) := rfl
  have HZ := Lib.hid (fun j (h : j < (boxL W H S).length) => boxL_at h)
  have HBL := Lib.hid (boxL_len W H S)
  obtain ⟨U, hU⟩ : ∃ U : Nat, bxW W S (plcP W S f) = U := ⟨(bxW W S (plcP W S f)).toNat, by omega⟩
  obtain ⟨V, hV⟩ : ∃ V : Nat, bxH H S (plcP W S f) = V := ⟨(bxH H S (plcP W S f)).toNat, by omega⟩
  rw [hU] at hbx t5 t6 t9 ⊢
  rw [hV] at hbx t7 t8 t10 ⊢
  simp only [Int.toNat_natCast]
  have HBX := Lib.hid hbx
  have HROW := Lib.hid hrow
  obtain ⟨n, hnn⟩ : ∃ n, cntN W H S = n := ⟨_, rfl⟩
  rw [hnn] at hf hg HBL ⊢
  obtain ⟨has, hhas⟩ : ∃ has, hasP W H S (plcP W S g) = has := ⟨_, rfl⟩
  rw [hhas] at HHAS ⊢
  generalize bxX S (plcP W S f) = X at *
  generalize bxY S (plcP W S f) = Y at *
  have hX2 : X + U ≤ 600 := by omega
  have hY2 : Y + V ≤ 600 := by omega
  clear hU hV hn n1 n2 hnn hhas p1 p2 p3 p4 hbx t9 t10 hr hrow
  have hf0 : (0 : Int) ≤ (f : Int) := by omega
  have hf2 : (f : Int) < (n : Int) := by omega
  have hg0 : (0 : Int) ≤ (g : Int) := by omega
  have hg2 : (g : Int) < (n : Int) := by omega
  have hwx : IntKind.i64.wrap (X + U) = X + U := IntWalk.i64_in _ (by omega)
  have hwy : IntKind.i64.wrap (Y + V) = Y + V := IntWalk.i64_in _ (by omega)
  have hA := bl0 w
  have n1 : ((f : Int) == (g : Int)) = false := by rw [beq_eq_false_iff_ne]; omega
  have n2 : ((g : Int) == (f : Int)) = false := by rw [beq_eq_false_iff_ne]; omega
  have n3 : decide ((g : Int) < (f : Int)) = false := decide_eq_false (by omega)
  have n4 : decide (g < f) = false := decide_eq_false (by omega)
  have n5 : decide ((f : Int) < (g : Int)) = true := decide_eq_true (by omega)
  have n6 : decide (f < g) = true := decide_eq_true (by omega)
  go_enter Tryd.func67, Tryd.ntmps67
  obtain ⟨gb, go, rfl, ⟨q0, q1⟩, q2, q3⟩ := HROW.out.cell (k := f) (by rw [HBL.out]; exact hf)
  obtain ⟨gb', go', hh, ⟨r0, r1⟩, r2, r3⟩ := HROW.out.cell (k := g) (by rw [HBL.out]; exact hg)
  cases hh
  rw [HZ.out, HBX.out] at q0 q1 q2 q3
  rw [HZ.out] at r0 r1 r2 r3
  simp only at q0 q1 q2 q3
  generalize bxF W H S g = z at *
  have zq := blk_lt q0
  have Q0 := Lib.hid q0; have Q1 := Lib.hid q1; have Q2 := Lib.hid q2; have Q3 := Lib.hid q3
  have R0 := Lib.hid r0; have R1 := Lib.hid r1; have R2 := Lib.hid r2; have R3 := Lib.hid r3
  clear HROW
  go_wp2_with fail
  clear q0 q1 q2 q3 r0 r1 r2 r3 zq
  go_loopw [7, 8, 9, 10, 11, 12] (fun o yv _ _ _ _ wr => ∃ j : Nat, j ≤ V ∧ yv = .int .i64 (Y + j) ∧ wr.ownsRow w.heap.size 117 4 o (brdL has X Y U j).length (flatPP (brdL has X Y U j)) ∧ Below w.heap.size w wr) (fun _ yv _ _ _ _ _ => (Y + V - intOf yv).toNat)
  case atStart => exact ⟨0, Nat.zero_le _, by simp, own_empty4 w 117 w.heap.size (Nat.le_refl _), bl_al hA _⟩
  case round =>
    clear hA
    obtain ⟨j, hj, rfl, hown, hA⟩ := hrel
    have q0 := cell_later hA Q0.out; have q1 := cell_later hA Q1.out; have q2 := cell_later hA Q2.out; have q3 := cell_later hA Q3.out
    have zq := blk_lt q0
    obtain ⟨y, hy⟩ : ∃ y, Y + (j : Int) = y := ⟨_, rfl⟩
    have HYN := Lib.hid (show Y + ((j + 1 : Nat) : Int) = y + 1 by rw [← hy]; omega)
    have hy0 : 0 ≤ y := by omega
    have hy6 : y ≤ 600 := by omega
    have hbr := brdL_succ has X Y U j
    rw [hy] at hbr ⊢
    have HBR := Lib.hid hbr
    have hle := brdL_le has X Y U j
    have hule : 2 * U * j ≤ 2 * 16 * 16 := Nat.mul_le_mul (by omega) (by omega)
    have HYE := Lib.hid hy
    by_cases hlt : j < V
    · have hly : y < Y + V := by omega
      have dly : decide (y < Y + (V : Int)) = true := decide_eq_true hly
      clear hy hbr
      go_wp2
      go_quiet (fail)
      obtain ⟨W2, hW2⟩ : ∃ W2, wr.drewN nq = W2 := ⟨_, rfl⟩
      have hk2 : Below wr.heap.size wr W2 := by rw [← hW2]; exact bl_drn wr nq
      rw [hW2]
      clear hW2
      replace hA := bl_tr hA hk2
      replace hown := own_later hown hk2
      clear hk2 q0 q1 q2 q3 zq
      have q0 := cell_later hA Q0.out; have q1 := cell_later hA Q1.out; have q2 := cell_later hA Q2.out; have q3 := cell_later hA Q3.out
      have zq := blk_lt q0
      have hB2 := hA
      go_wp2_with fail
      obtain ⟨L, hL⟩ : ∃ L, brdL has X Y U j = L := ⟨_, rfl⟩
      rw [hL] at hown HBR hle
      clear hL
      have HOWN := Lib.hid hown
      clear q0 q1 q2 q3 zq hown hA
      go_loopw [7, 9, 10, 11, 12] (fun o xv _ _ _ wr => ∃ i : Nat, i ≤ U ∧ xv = .int .i64 (X + i) ∧ wr.ownsRow w.heap.size 117 4 o (L ++ rowL has X y i).length (flatPP (L ++ rowL has X y i)) ∧ Below w.heap.size w wr) (fun _ xv _ _ _ _ => (X + U - intOf xv).toNat)
      case atStart => exact ⟨0, Nat.zero_le _, by simp, by rw [show L ++ rowL has X y 0 = L by simp [rowL]]; exact HOWN.out, hB2⟩
      case round =>
        obtain ⟨i, hii, rfl, hown, hA⟩ := hrel
        have q0 := cell_later hA Q0.out; have q1 := cell_later hA Q1.out; have q2 := cell_later hA Q2.out; have q3 := cell_later hA Q3.out
        have zq := blk_lt q0
        obtain ⟨x, hx⟩ : ∃ x, X + (i : Int) = x := ⟨_, rfl⟩
        have HXN := Lib.hid (show X + ((i + 1 : Nat) : Int) = x + 1 by rw [← hx]; omega)
        have hx0 : 0 ≤ x := by omega
        have hx6 : x ≤ 600 := by omega
        have hrw := rowL_succ has X y i
        rw [hx] at hrw ⊢
        have HRW := Lib.hid hrw
        have hrle := rowL_le has X y i
        by_cases hli : i < U
        · have hlx : x < X + U := by omega
          have dlx : decide (x < X + (U : Int)) = true := decide_eq_true hlx
          clear hx hrw
          go_wp2
          go_quiet (fail)
          obtain ⟨W2, hW2⟩ : ∃ W2, wr.drewN nq = W2 := ⟨_, rfl⟩
          have hk2 : Below wr.heap.size wr W2 := by rw [← hW2]; exact bl_drn wr nq
          rw [hW2]
          clear hW2
          replace hA := bl_tr hA hk2
          replace hown := own_later hown hk2
          clear hk2 q0 q1 q2 q3 zq
          have hB3 := hA
          go_wp2_with fail
          obtain ⟨L2, hL2⟩ : ∃ L2, L ++ rowL has X y i = L2 := ⟨_, rfl⟩
          have hl2 : L2.length ≤ 1000 := by rw [← hL2, List.length_append]; omega
          have HR2 := Lib.hid (show L ++ rowL has X y (i + 1) = L2 ++ celL has (x, y) by rw [← hL2, HRW.out, List.append_assoc])
          rw [hL2] at hown
          clear hL2
          have HOWN2 := Lib.hid hown
          have HC := Lib.hid (fun (d : Nat) (h1 : 1 ≤ d) => dirL_succ has (x, y) h1)
          have HCL := Lib.hid (fun (d : Nat) (h1 : d ≤ 3) => dirL_le has (x, y) h1)
          clear hown hA
          go_loopw [7, 10, 11, 12] (fun o dv _ _ wr => ∃ d : Nat, 1 ≤ d ∧ d ≤ 3 ∧ dv = .int .i64 d ∧ wr.ownsRow w.heap.size 117 4 o (L2 ++ dirL has (x, y) d).length (flatPP (L2 ++ dirL has (x, y) d)) ∧ Below w.heap.size w wr) (fun _ dv _ _ _ => 3 - (intOf dv).toNat)
          case atStart => exact ⟨1, by omega, by omega, rfl, by rw [show L2 ++ dirL has (x, y) 1 = L2 by simp [dirL]]; exact HOWN2.out, hB3⟩
          case round =>
            obtain ⟨d, hd1, hd3, rfl, hown, hA⟩ := hrel
            have hd0 : (0 : Int) ≤ (d : Int) := by omega
            have hdl := HCL.out d hd3
            by_cases hld : d ≤ 2
            · have hld2 : (d : Int) ≤ 2 := by omega
              have dld : decide ((d : Int) ≤ 2) = true := decide_eq_true hld2
              obtain ⟨L3, hL3⟩ : ∃ L3, L2 ++ dirL has (x, y) d = L3 := ⟨_, rfl⟩
              have hl3 : L3.length ≤ 1002 := by rw [← hL3, List.length_append]; omega
              obtain ⟨nx, hnx⟩ : ∃ nx, stepI (x, y) d = nx := ⟨_, rfl⟩
              have hst := fun w => step8_p x y d w ⟨by omega, by omega, by omega, by omega⟩ (by omega) (by omega)
              have hnw : w64 nx.1 ∧ w64 nx.2 := by
                rw [← hnx]
                unfold stepI dxI dyI w64
                refine ⟨⟨?_, ?_⟩, ?_, ?_⟩ <;> simp only <;> (repeat' split) <;> omega
              have hhs := HHAS.out nx hnw
              have HD := Lib.hid (show L2 ++ dirL has (x, y) (d + 1) = L3 ++ (if has nx = true then [((x, y), nx)] else []) by
                rw [HC.out d hd1, ← List.append_assoc, hL3]; unfold stpL; rw [hnx])
              rw [hnx] at hst
              rw [hL3] at hown
              obtain ⟨t, ht⟩ : ∃ t, has nx = t := ⟨_, rfl⟩
              rw [ht] at hhs HD
              have HST := Lib.hid hst
              have HHS := Lib.hid hhs
              clear hL3 hnx hst hnw hhs ht hdl
              obtain ⟨va, vc, rfl, hcp⟩ := own_shape hown
              obtain ⟨m, hm⟩ : ∃ m, L3.length = m := ⟨_, rfl⟩
              rw [hm] at hown hcp hl3 ⊢
              have HM := Lib.hid hm
              clear hm
              go_wp2_with fail
              refine (HST.out _).mono ?_
              rintro e w3 ⟨rfl, hb⟩
              have hk : Below wr.heap.size wr w3 := bl_tr (bl_al (bl0 _) _) hb
              have k0 := cell_later hb (v := .int .i64 x) (a := ⟨wr.heap.size, 0, none⟩) (by simp [go_sem])
              have k1 := cell_later hb (v := .int .i64 y) (a := ⟨wr.heap.size, 1, none⟩) (by simp [go_sem])
              have zk := blk_lt k0
              have hbs := hA.size
              replace hA := bl_tr hA hk
              replace hown := own_later hown hk
              have r0 := cell_later hA R0.out; have r1 := cell_later hA R1.out; have r2 := cell_later hA R2.out; have r3 := cell_later hA R3.out
              have zr := blk_lt r0
              clear hb hk
              go_upto_region 17 with fail
              have hB := bl_dr (bl_al (bl0 w3) (.cells #[.int .i64 nx.1, .int .i64 nx.2] 30))
              go_region_held3 (fun w' => w'.cell? ⟨w3.heap.size, 0, none⟩ = some (.int .i64 nx.1) ∧ w'.cell? ⟨w3.heap.size, 1, none⟩ = some (.int .i64 nx.2) ∧ (w'.cell? ⟨gb, go + g * 4, none⟩ = some (.int .i64 z.1.1) ∧ w'.cell? ⟨gb, go + g * 4 + 1, none⟩ = some (.int .i64 z.1.2)) ∧ w'.cell? ⟨gb, go + g * 4 + 2, none⟩ = some (.int .i64 z.2.1) ∧ w'.cell? ⟨gb, go + g * 4 + 3, none⟩ = some (.int .i64 z.2.2))
                (first | exact ⟨m0, m1, ⟨cell_later hB r0, cell_later hB r1⟩, cell_later hB r2, cell_later hB r3⟩ | exact ⟨by simp [go_sem], by simp [go_sem], ⟨cell_later hB r0, cell_later hB r1⟩, cell_later hB r2, cell_later hB r3⟩)
                ((go_at_call 19; (with_reducible refine (HHS.out _).mono ?_); rintro e w4 ⟨rfl, hb9⟩; have m0 := cell_later hb9 (v := .int .i64 nx.1) (a := ⟨w3.heap.size, 0, none⟩) (by simp [go_sem]); have m1 := cell_later hb9 (v := .int .i64 nx.2) (a := ⟨w3.heap.size, 1, none⟩) (by simp [go_sem]); replace hB := bl_tr hB hb9))
              all_goals
                replace hA := bl_tr hA hB
                replace hown := own_later hown hB
                replace k0 := cell_later hB k0
                replace k1 := cell_later hB k1
                replace zk := blk_lt k0
                have zm := blk_lt m0
                clear hB r0 r1 r2 r3 zr
                cases t
                · have hd2 : L2 ++ dirL has (x, y) (d + 1) = L3 := by rw [HD.out, if_neg (by decide), List.append_nil]
                  have HD2 := Lib.hid hd2
                  clear hd2
                  go_wp2
                  go_roundw
                  case rel => exact ⟨d + 1, by omega, by omega, by go_num, by rw [HD2.out, HM.out]; exact hown, hA⟩
                  case measure => simp [intOf]; omega
                · have hd2 : L2 ++ dirL has (x, y) (d + 1) = L3 ++ [((x, y), nx)] := by rw [HD.out, if_pos rfl]
                  have HD2 := Lib.hid hd2
                  clear hd2
                  go_wp2_with (at_builtin; refine wpList_append_own _ rfl _ _ 103 rfl w.heap.size 117 i0 (.agg #[.int .i64 0, .int .i64 0, .int .i64 0, .int .i64 0]) 4 32 Tryd.underlying103 hi hz0 hz1 hz2 rfl (by decide) _ _ _ rfl (hown.alloc _) ⟨w4.heap.size, 0, none⟩ 1 1 [.int .i64 x, .int .i64 y, .int .i64 nx.1, .int .i64 nx.2] rfl rfl ?c1 ?c2 ?c3 ?c4 ?c5 ?_)
                  try case c1 => exact cell_four w4 (.int .i64 x) (.int .i64 y) (.int .i64 nx.1) (.int .i64 nx.2) 117
                  case c2 => (first | exact ⟨rfl, rfl, rfl, rfl⟩ | (intro u' hu; simp at hu; rcases hu with rfl | rfl | rfl | rfl <;> rfl))
                  case c3 => unfold maxLen; omega
                  case c4 => omega
                  case c5 => (have := hA.size; simp; omega)
                  intro v' w5 hown' hgrow _
                  have hB5 : Below w.heap.size w w5 := (bl_al hA (.cells #[.int .i64 x, .int .i64 y, .int .i64 nx.1, .int .i64 nx.2] 117)).grown hgrow (by have := hA.size; simp; omega) (fun j hj => by have := (hown.lt j hj).1; omega)
                  rw [← flatPP_snoc L3 ((x, y), nx), ← HD2.out] at hown'
                  have hlen : m + 1 = (L2 ++ dirL has (x, y) (d + 1)).length := by rw [HD2.out, List.length_append, HM.out]; rfl
                  rw [hlen] at hown'
                  clear hgrow hown hA hlen k0 k1 m0 m1 zk zm
                  go_wp2
                  go_roundw
                  case rel => exact ⟨d + 1, by omega, by omega, by go_num, hown', hB5⟩
                  case measure => simp [intOf]; omega
            · obtain rfl : d = 3 := by omega
              have h3 : L2 ++ dirL has (x, y) 3 = L ++ rowL has X y (i + 1) := by rw [HR2.out, dirL_3]
              rw [h3] at hown
              clear h3
              go_wp2
              go_roundw
              case rel => exact ⟨i + 1, by omega, by rw [HXN.out]; try go_num, hown, hA⟩
              case measure => simp [intOf]; omega
        · obtain rfl : i = U := by omega
          have hge : ¬ x < X + i := by omega
          have dge : decide (x < X + (i : Int)) = false := decide_eq_false hge
          have hbb : brdL has X Y i (j + 1) = L ++ rowL has X y i := HBR.out
          have HBB := Lib.hid hbb
          clear hx hrw hbb
          go_wp2
          go_quiet (fail)
          obtain ⟨W2, hW2⟩ : ∃ W2, wr.drewN nq = W2 := ⟨_, rfl⟩
          have hk2 : Below wr.heap.size wr W2 := by rw [← hW2]; exact bl_drn wr nq
          rw [hW2]
          clear hW2
          replace hA := bl_tr hA hk2
          replace hown := own_later hown hk2
          clear hk2 q0 q1 q2 q3 zq
          go_wp2
          go_roundw
          case rel => exact ⟨j + 1, by omega, by rw [HYN.out]; try go_num, by rw [HBB.out]; exact hown, hA⟩
          case measure => simp [intOf]; omega
    · obtain rfl : j = V := by omega
      have hge : ¬ y < Y + j := by omega
      have dge : decide (y < Y + (j : Int)) = false := decide_eq_false hge
      obtain ⟨va, vc, rfl, hcp⟩ := own_shape hown
      clear hy hbr
      go_wp2
      go_quiet (fail)
      obtain ⟨W2, hW2⟩ : ∃ W2, wr.drewN nq = W2 := ⟨_, rfl⟩
      have hk2 : Below wr.heap.size wr W2 := by rw [← hW2]; exact bl_drn wr nq
      rw [hW2]
      clear hW2
      replace hA := bl_tr hA hk2
      replace hown := own_later hown hk2
      clear hk2 q0 q1 q2 q3 zq
      have hrow : RowPP W2 va (brdL has X Y U j) := rowPP_of_own (cap := vc) hown
      have HR := Lib.hid (show ∀ e, e = Ending.returned (.slice va (brdL has X Y U j).length vc) → BxsR (brdL has X Y U j) w e W2 from fun e he => ⟨va, vc, he, hrow, hA⟩)
      obtain ⟨m, hm⟩ : ∃ m, (brdL has X Y U j).length = m := ⟨_, rfl⟩
      rw [hm] at HR ⊢
      clear hown hrow hm hle
      go_wp2
      go_ret
      exact HR.out _ rfl

set_option maxRecDepth 100000 in
set_option maxHeartbeats 1600000 in
theorem border11_eq (a : Option Addr) (n cap : Nat) (A : Int) (w : World) :
    Calls Tryd.prog 67 #[.slice a n cap, .int .i64 A, .int .i64 A] w (BxsR [] w) := by
  have n1 : (A == A) = true := by simp
  go_enter Tryd.func67, Tryd.ntmps67
  go_wp2
  go_ret
  exact ⟨_, _, rfl, .inl rfl, bl_al (bl0 _) _⟩
end Go.Proofs.YtbdfjdipjacamaaDoor
