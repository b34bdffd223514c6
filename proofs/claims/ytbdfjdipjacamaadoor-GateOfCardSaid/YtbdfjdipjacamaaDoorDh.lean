/- Parts: the pairs along a border. -/
import Derived.Test.YtbdfjdipjacamaaDoorDg
import Derived.Deep.CutRange
import Derived.WalkMore
import Derived.Scope
namespace Go.Proofs.YtbdfjdipjacamaaDoor
open Go.RowKit

def PrsR (l : List (IC × IC)) (w : World) (e : Ending) (w' : World) : Prop := ∃ a cap, e = .returned (.slice a l.length cap) ∧ RowPP w' a l ∧ Below w.heap.size w w' ∧ l.length ≤ cap

set_option maxRecDepth 100000 in
set_option maxHeartbeats 4000000 in
theorem pairs_east (W H S : Int) (p : IC) (w : World) (hs : Stp w) (hr : rightP W H S = true) (h1 : 0 ≤ p.1) (h2 : p.1 < lieN W S) (h3 : 0 ≤ p.2) (h4 : p.2 < lieN H S) (ht : toP W H S p 1 = true) :
    Calls Tryd.prog 103 #[.agg #[.int .i64 W, .int .i64 H, .int .i64 S], .agg #[.int .i64 p.1, .int .i64 p.2], .int .i64 1] w (PrsR (prsP W H S p 1) w) := by
  obtain ⟨i0, hi, hz0, hz1, hz2⟩ := info_parts Tryd.infoPP
  obtain ⟨⟨t1, t2, t3, t4⟩, ⟨t5, t6, t7, t8⟩, t9, t10⟩ := bx_bd hr h1 h2 h3 h4
  have hon := fun (k : Nat) (hk : k < prsN W H S p 1) => prs_on (d := 1) (k := k) hr h1 h2 h3 h4 (.inl rfl) ht hk
  obtain ⟨⟨a1, a2, a3, a4⟩, a5, a6⟩ := rightP_iff.1 hr
  obtain ⟨n, hn⟩ : ∃ n : Nat, bxH H S p = n := ⟨(bxH H S p).toNat, by omega⟩
  have hpn : prsN W H S p 1 = n := by unfold prsN; rw [if_pos rfl, hn]; rfl
  have HBX := Lib.hid (fun w => box_p W H S p w hr h1 h2 h3 h4)
  obtain ⟨B, hB⟩ : ∃ B : Nat → IC, B = fun (k : Nat) => ((0 : Int), (k : Int)) := ⟨_, rfl⟩
  have HAT := Lib.hid (fun (k : Nat) (hk : k < n) w => (show Calls Tryd.prog 97 #[.agg #[.int .i64 1, .int .i64 n], .int .i64 k] w fun e w' => e = .returned (.tuple #[.agg #[.int .i64 (B k).1, .int .i64 (B k).2], .int .i64 0]) ∧ Below w.heap.size w w' by
    have h := at_yes 1 n k w (atB_iff.2 (by omega))
    rw [Int.emod_one, Int.ediv_one] at h
    rw [hB]
    exact h))
  have HST := Lib.hid (fun (k : Nat) (hk : k < n) w (hs : Stp w) => (show Calls Tryd.prog 127 #[.agg #[.int .i64 W, .int .i64 H], .agg #[.int .i64 (prsF W H S p 1 k).1.1, .int .i64 (prsF W H S p 1 k).1.2], .int .i64 1] w fun e w' => e = .returned (.tuple #[.agg #[.int .i64 (prsF W H S p 1 k).2.1, .int .i64 (prsF W H S p 1 k).2.2], .int .i64 0]) ∧ Below w.heap.size w w' by
    obtain ⟨o1, o2⟩ := hon k (by omega)
    exact step_yes W H _ _ 1 w hs (by omega) (by omega) o1 o2))
  obtain ⟨EX, hEX⟩ : ∃ EX, bxX S p + bxW W S p - 1 = EX := ⟨_, rfl⟩
  obtain ⟨EY, hEY⟩ : ∃ EY, bxY S p = EY := ⟨_, rfl⟩
  obtain ⟨EW, hEW⟩ : ∃ EW : Int, 1 = EW := ⟨_, rfl⟩
  obtain ⟨EH, hEH⟩ : ∃ EH : Int, (n : Int) = EH := ⟨_, rfl⟩
  have HBD := Lib.hid (fun (k : Nat) (hk : k < n) => (show 0 ≤ EX ∧ EX ≤ 256 ∧ (0 ≤ EY ∧ EY ≤ 256) ∧ (0 ≤ (B k).1 ∧ (B k).1 ≤ 256 ∧ 0 ≤ (B k).2 ∧ (B k).2 ≤ 256) ∧ EX + (B k).1 = (prsF W H S p 1 k).1.1 ∧ EY + (B k).2 = (prsF W H S p 1 k).1.2 by
    rw [hB]
    have e : (prsF W H S p 1 k).1 = (bxX S p + bxW W S p - 1, bxY S p + (k : Int)) := rfl
    rw [e, hEX, hEY]
    exact ⟨by omega, by omega, ⟨by omega, by omega⟩, ⟨by show (0 : Int) ≤ 0; omega, by show (0 : Int) ≤ 256; omega, by show (0 : Int) ≤ (k : Int); omega, by show (k : Int) ≤ 256; omega⟩, by show EX + 0 = EX; omega, rfl⟩))
  have HSN := Lib.hid (fun (k : Nat) => (show (List.range (k + 1)).map (prsF W H S p 1) = (List.range k).map (prsF W H S p 1) ++ [prsF W H S p 1 k] by rw [List.range_succ, List.map_append]; rfl))
  obtain ⟨L, hL⟩ : ∃ L, prsP W H S p 1 = L := ⟨_, rfl⟩
  have HEND := Lib.hid (show L = (List.range n).map (prsF W H S p 1) by rw [← hL]; unfold prsP; rw [hpn])
  rw [hL]
  clear hL
  have hw1 : IntKind.i64.wrap (bxX S p + bxW W S p) = bxX S p + bxW W S p := IntWalk.i64_in _ (by omega)
  have hw2 : IntKind.i64.wrap (bxX S p + bxW W S p - 1) = EX := by rw [← hEX]; exact IntWalk.i64_in _ (by omega)
  have hmk := fun w => make_pp n (by omega) w
  rw [hn, hEY] at HBX
  have hn0 : (n : Int) ≤ 16 := by omega
  have hn1 : (1 : Int) ≤ (n : Int) := by omega
  generalize bxX S p = x at *
  generalize bxW W S p = u at *
  have HEW := Lib.hid hEW
  have HEH := Lib.hid hEH
  have HN := Lib.hid hn
  have HB := Lib.hid hB
  clear hon hpn hn hEY hEW hEH ht hr h1 h2 h3 h4 hB a1 a2 a3 a4 a5 a6
  have hA := bl0 w
  go_enter Tryd.func103, Tryd.ntmps103
  go_wp2_with fail
  refine (HBX.out _).mono ?_
  rintro e w1 ⟨rfl, hb⟩
  have hk : Below w.heap.size w w1 := by first | exact hb | exact bl_tr (bl_al (bl0 _) _) hb | exact bl_tr (bl_dr (bl_al (bl0 _) _)) hb | exact bl_tr (bl_al (bl_al (bl0 _) _) _) hb | exact bl_tr (bl_dr (bl_al (bl_al (bl0 _) _) _)) hb | exact bl_tr (bl_al (bl_al (bl_al (bl0 _) _) _) _) hb | exact bl_tr (bl_dr (bl_al (bl_al (bl_al (bl0 _) _) _) _)) hb | exact bl_tr (bl_al (bl_al (bl_al (bl_al (bl0 _) _) _) _) _) hb | exact bl_tr (bl_dr (bl_al (bl_al (bl_al (bl_al (bl0 _) _) _) _) _)) hb | exact bl_tr (bl_al (bl_al (bl_al (bl_al (bl_al (bl0 _) _) _) _) _) _) hb | exact bl_tr (bl_dr (bl_al (bl_al (bl_al (bl_al (bl_al (bl0 _) _) _) _) _) _)) hb | exact bl_tr (bl_al (bl_al (bl_al (bl_al (bl_al (bl_al (bl0 _) _) _) _) _) _) _) hb | exact bl_tr (bl_dr (bl_al (bl_al (bl_al (bl_al (bl_al (bl_al (bl0 _) _) _) _) _) _) _)) hb | exact bl_tr (bl_dr (bl0 _)) hb
  replace hA := bl_tr hA hk
  have f0 := cell_later hb (v := .int .i64 W) (a := ⟨w.heap.size, 0, none⟩) (by simp [go_sem])
  have f1 := cell_later hb (v := .int .i64 H) (a := ⟨w.heap.size, 1, none⟩) (by simp [go_sem])
  clear hb hk
  have zf0 := blk_lt f0
  have zf1 := blk_lt f1
  obtain ⟨F, hF⟩ : ∃ F, prsF W H S p 1 = F := ⟨_, rfl⟩
  rw [hF] at HST HBD HSN HEND
  clear hF
  go_wp2_with fail
  go_loopw [8, 9, 10, 11, 12, 13, 14, 47] (fun v _ _ _ _ _ _ i wr => ∃ k : Nat, k ≤ n ∧ i = .int .i64 k ∧ wr.ownsRow (w1.heap.size + 1) 117 4 v k (flatPP ((List.range k).map F)) ∧ Below w.heap.size w wr ∧ wr.cell? ⟨w1.heap.size, 0, none⟩ = some (.int .i64 EX) ∧ wr.cell? ⟨w1.heap.size, 1, none⟩ = some (.int .i64 EY) ∧ wr.cell? ⟨w1.heap.size, 2, none⟩ = some (.int .i64 1) ∧ wr.cell? ⟨w1.heap.size, 3, none⟩ = some (.int .i64 n) ∧ wr.cell? ⟨w.heap.size, 0, none⟩ = some (.int .i64 W) ∧ wr.cell? ⟨w.heap.size, 1, none⟩ = some (.int .i64 H)) (fun _ _ _ _ _ _ _ i _ => n - (intOf i).toNat)
  case atStart =>
    have ho := own_pp (w1.alloc (.cells #[.int .i64 EX, .int .i64 EY, .int .i64 1, .int .i64 n] 28)) n (w1.heap.size + 1) (by simp) (by omega)
    rw [World.size_alloc] at ho
    have hl := bl_al (bl_al (bl0 w1) (.cells #[.int .i64 EX, .int .i64 EY, .int .i64 1, .int .i64 n] 28)) (.cells (madeCells #[.int .i64 0, .int .i64 0, .int .i64 0, .int .i64 0] (n * 4)) 117)
    exact ⟨0, Nat.zero_le _, rfl, ho, bl_tr hA hl, by simp [go_sem], by simp [go_sem], by simp [go_sem], by simp [go_sem], cell_later hl f0, cell_later hl f1⟩
  case round =>
    have hbs := hA.size
    clear hA f0 f1 zf0 hmk HBX
    obtain ⟨k, hk, rfl, hown, hA, e0, e1, e2, e3, f0, f1⟩ := hrel
    have hk0 : (0 : Int) ≤ (k : Int) := by omega
    obtain ⟨va, vc, rfl, hcp⟩ := own_shape hown
    by_cases hlt : k < n
    · have hlt2 : (k : Int) < (n : Int) := by omega
      have hat := HAT.out k hlt
      have hst := HST.out k hlt
      obtain ⟨x1, x2, x3, x4, x5, x6⟩ := HBD.out k hlt
      have hsn := HSN.out k
      obtain ⟨bk, hbk⟩ : ∃ bk, B k = bk := ⟨_, rfl⟩
      obtain ⟨ck, hck⟩ : ∃ ck, F k = ck := ⟨_, rfl⟩
      rw [hbk] at hat x4 x5 x6
      rw [hck] at hst x5 x6 hsn
      have HAT2 := Lib.hid hat
      have HST2 := Lib.hid hst
      have HSN2 := Lib.hid hsn
      have ze := blk_lt e0
      have zf := blk_lt f0
      have w1' : IntKind.i64.wrap (EX + bk.1) = ck.1.1 := by rw [← x5]; exact IntWalk.i64_in _ (by omega)
      have w2' : IntKind.i64.wrap (EY + bk.2) = ck.1.2 := by rw [← x6]; exact IntWalk.i64_in _ (by omega)
      clear hat hst hsn hbk hck
      go_wp2_with fail
      refine (HAT2.out _).mono ?_
      rintro e w3 ⟨rfl, hb⟩
      have hk : Below wr.heap.size wr w3 := by first | exact hb | exact bl_tr (bl_al (bl0 _) _) hb | exact bl_tr (bl_dr (bl_al (bl0 _) _)) hb | exact bl_tr (bl_al (bl_al (bl0 _) _) _) hb | exact bl_tr (bl_dr (bl_al (bl_al (bl0 _) _) _)) hb | exact bl_tr (bl_al (bl_al (bl_al (bl0 _) _) _) _) hb | exact bl_tr (bl_dr (bl_al (bl_al (bl_al (bl0 _) _) _) _)) hb | exact bl_tr (bl_al (bl_al (bl_al (bl_al (bl0 _) _) _) _) _) hb | exact bl_tr (bl_dr (bl_al (bl_al (bl_al (bl_al (bl0 _) _) _) _) _)) hb | exact bl_tr (bl_al (bl_al (bl_al (bl_al (bl_al (bl0 _) _) _) _) _) _) hb | exact bl_tr (bl_dr (bl_al (bl_al (bl_al (bl_al (bl_al (bl0 _) _) _) _) _) _)) hb | exact bl_tr (bl_al (bl_al (bl_al (bl_al (bl_al (bl_al (bl0 _) _) _) _) _) _) _) hb | exact bl_tr (bl_dr (bl_al (bl_al (bl_al (bl_al (bl_al (bl_al (bl0 _) _) _) _) _) _) _)) hb | exact bl_tr (bl_dr (bl0 _)) hb
      replace hA := bl_tr hA hk
      replace hown := own_later hown hk
      replace e0 := cell_later hk e0
      replace e1 := cell_later hk e1
      replace e2 := cell_later hk e2
      replace e3 := cell_later hk e3
      replace f0 := cell_later hk f0
      replace f1 := cell_later hk f1
      clear hb hk
      have ze0 := blk_lt e0
      have ze1 := blk_lt e1
      have ze2 := blk_lt e2
      have ze3 := blk_lt e3
      have zf0 := blk_lt f0
      have zf1 := blk_lt f1
      go_wp2_with fail
      refine (HST2.out _ (hs.below (by first | exact hA | exact (bl_al hA _) | exact (bl_dr (bl_al hA _)) | exact (bl_al (bl_al hA _) _) | exact (bl_dr (bl_al (bl_al hA _) _)) | exact (bl_al (bl_al (bl_al hA _) _) _) | exact (bl_dr (bl_al (bl_al (bl_al hA _) _) _)) | exact (bl_al (bl_al (bl_al (bl_al hA _) _) _) _) | exact (bl_dr (bl_al (bl_al (bl_al (bl_al hA _) _) _) _)) | exact (bl_al (bl_al (bl_al (bl_al (bl_al hA _) _) _) _) _) | exact (bl_dr (bl_al (bl_al (bl_al (bl_al (bl_al hA _) _) _) _) _)) | exact (bl_al (bl_al (bl_al (bl_al (bl_al (bl_al hA _) _) _) _) _) _) | exact (bl_dr (bl_al (bl_al (bl_al (bl_al (bl_al (bl_al hA _) _) _) _) _) _)) | exact (bl_dr hA)))).mono ?_
      rintro e w4 ⟨rfl, hb⟩
      have hk : Below w3.heap.size w3 w4 := by first | exact hb | exact bl_tr (bl_al (bl0 _) _) hb | exact bl_tr (bl_dr (bl_al (bl0 _) _)) hb | exact bl_tr (bl_al (bl_al (bl0 _) _) _) hb | exact bl_tr (bl_dr (bl_al (bl_al (bl0 _) _) _)) hb | exact bl_tr (bl_al (bl_al (bl_al (bl0 _) _) _) _) hb | exact bl_tr (bl_dr (bl_al (bl_al (bl_al (bl0 _) _) _) _)) hb | exact bl_tr (bl_al (bl_al (bl_al (bl_al (bl0 _) _) _) _) _) hb | exact bl_tr (bl_dr (bl_al (bl_al (bl_al (bl_al (bl0 _) _) _) _) _)) hb | exact bl_tr (bl_al (bl_al (bl_al (bl_al (bl_al (bl0 _) _) _) _) _) _) hb | exact bl_tr (bl_dr (bl_al (bl_al (bl_al (bl_al (bl_al (bl0 _) _) _) _) _) _)) hb | exact bl_tr (bl_al (bl_al (bl_al (bl_al (bl_al (bl_al (bl0 _) _) _) _) _) _) _) hb | exact bl_tr (bl_dr (bl_al (bl_al (bl_al (bl_al (bl_al (bl_al (bl0 _) _) _) _) _) _) _)) hb | exact bl_tr (bl_dr (bl0 _)) hb
      replace hA := bl_tr hA hk
      replace hown := own_later hown hk
      replace e0 := cell_later hk e0
      replace e1 := cell_later hk e1
      replace e2 := cell_later hk e2
      replace e3 := cell_later hk e3
      replace f0 := cell_later hk f0
      replace f1 := cell_later hk f1
      have l0 := cell_later hb (v := .int .i64 ck.1.1) (a := ⟨w3.heap.size + 1, 0, none⟩) (by simp [go_sem])
      have l1 := cell_later hb (v := .int .i64 ck.1.2) (a := ⟨w3.heap.size + 1, 1, none⟩) (by simp [go_sem])
      clear hb hk
      have ze0 := blk_lt e0
      have ze1 := blk_lt e1
      have ze2 := blk_lt e2
      have ze3 := blk_lt e3
      have zf0 := blk_lt f0
      have zf1 := blk_lt f1
      have zl0 := blk_lt l0
      have zl1 := blk_lt l1
      clear w1' w2' x1 x2 x3 x4 x5 x6
      go_wp2_with (at_builtin; refine wpList_append_own _ rfl _ _ 103 rfl (w1.heap.size + 1) 117 i0 (.agg #[.int .i64 0, .int .i64 0, .int .i64 0, .int .i64 0]) 4 32 Tryd.underlying103 hi hz0 hz1 hz2 rfl (by decide) _ _ _ rfl ((hown.alloc _).alloc _) ⟨w4.heap.size + 1, 0, none⟩ 1 1 [.int .i64 ck.1.1, .int .i64 ck.1.2, .int .i64 ck.2.1, .int .i64 ck.2.2] rfl rfl ?c1 ?c2 ?c3 ?c4 ?c5 ?_)
      case c1 => (have := cell_four (w4.alloc (.cells #[.int .i64 ck.2.1, .int .i64 ck.2.2] 30)) (.int .i64 ck.1.1) (.int .i64 ck.1.2) (.int .i64 ck.2.1) (.int .i64 ck.2.2) 117; rw [World.size_alloc] at this; exact this)
      case c2 => intro u hu; simp at hu; rcases hu with rfl | rfl | rfl | rfl <;> rfl
      case c3 => unfold maxLen; omega
      case c4 => omega
      case c5 => (simp; omega)
      intro v' w5 hown' hgrow _
      have hl2 : Below w4.heap.size w4 ((w4.alloc (.cells #[.int .i64 ck.2.1, .int .i64 ck.2.2] 30)).alloc (.cells #[.int .i64 ck.1.1, .int .i64 ck.1.2, .int .i64 ck.2.1, .int .i64 ck.2.2] 117)) := bl_al (bl_al (bl0 _) _) _
      have hB5 : Below w.heap.size w w5 := (bl_tr hA hl2).grown hgrow (by have := hA.size; simp; omega) (fun j hj => by have := (hown.lt j hj).1; omega)
      have hne : ∀ j, j < w1.heap.size + 1 → some j ≠ Value.ownBlock (.slice va k vc) := fun j hj e => by have := (hown.lt _ e.symm).1; omega
      have e0' := hgrow.cell (cell_later hl2 e0) (hne w1.heap.size (Nat.lt_succ_self _))
      have e1' := hgrow.cell (cell_later hl2 e1) (hne w1.heap.size (Nat.lt_succ_self _))
      have e2' := hgrow.cell (cell_later hl2 e2) (hne w1.heap.size (Nat.lt_succ_self _))
      have e3' := hgrow.cell (cell_later hl2 e3) (hne w1.heap.size (Nat.lt_succ_self _))
      have f0' := hgrow.cell (cell_later hl2 f0) (hne w.heap.size (by omega))
      have f1' := hgrow.cell (cell_later hl2 f1) (hne w.heap.size (by omega))
      rw [← flatPP_snoc, ← HSN2.out] at hown'
      clear hgrow hown hl2 hne e0 e1 e2 e3 f0 f1 l0 l1 hA
      go_wp2
      go_roundw
      case rel => exact ⟨k + 1, by omega, by go_num, hown', hB5, e0', e1', e2', e3', f0', f1'⟩
      case measure => simp [intOf]; omega
    · obtain rfl : k = n := by omega
      have hend := HEND.out
      have hrow : RowPP wr va ((List.range k).map F) := rowPP_of_own (cap := vc) (by simpa using hown)
      have HR := Lib.hid (show ∀ e, e = Ending.returned (.slice va k vc) → PrsR L w e wr from fun e he => ⟨va, vc, by rw [he, hend]; simp, by rw [hend]; exact hrow, hA, by rw [hend]; simpa using hcp⟩)
      have hge : ¬ (k : Int) < (k : Int) := by omega
      clear hown hrow hend
      go_wp2
      go_ret
      exact HR.out _ rfl
set_option maxRecDepth 100000 in
set_option maxHeartbeats 4000000 in
theorem pairs_south (W H S : Int) (p : IC) (w : World) (hs : Stp w) (hr : rightP W H S = true) (h1 : 0 ≤ p.1) (h2 : p.1 < lieN W S) (h3 : 0 ≤ p.2) (h4 : p.2 < lieN H S) (ht : toP W H S p 2 = true) :
    Calls Tryd.prog 103 #[.agg #[.int .i64 W, .int .i64 H, .int .i64 S], .agg #[.int .i64 p.1, .int .i64 p.2], .int .i64 2] w (PrsR (prsP W H S p 2) w) := by
  obtain ⟨i0, hi, hz0, hz1, hz2⟩ := info_parts Tryd.infoPP
  obtain ⟨⟨t1, t2, t3, t4⟩, ⟨t5, t6, t7, t8⟩, t9, t10⟩ := bx_bd hr h1 h2 h3 h4
  have hon := fun (k : Nat) (hk : k < prsN W H S p 2) => prs_on (d := 2) (k := k) hr h1 h2 h3 h4 (.inr rfl) ht hk
  obtain ⟨⟨a1, a2, a3, a4⟩, a5, a6⟩ := rightP_iff.1 hr
  obtain ⟨n, hn⟩ : ∃ n : Nat, bxW W S p = n := ⟨(bxW W S p).toNat, by omega⟩
  have hpn : prsN W H S p 2 = n := by unfold prsN; rw [if_neg (by decide), hn]; rfl
  have HBX := Lib.hid (fun w => box_p W H S p w hr h1 h2 h3 h4)
  obtain ⟨B, hB⟩ : ∃ B : Nat → IC, B = fun (k : Nat) => ((k : Int), (0 : Int)) := ⟨_, rfl⟩
  have HAT := Lib.hid (fun (k : Nat) (hk : k < n) w => (show Calls Tryd.prog 97 #[.agg #[.int .i64 n, .int .i64 1], .int .i64 k] w fun e w' => e = .returned (.tuple #[.agg #[.int .i64 (B k).1, .int .i64 (B k).2], .int .i64 0]) ∧ Below w.heap.size w w' by
    have h := at_yes n 1 k w (atB_iff.2 (by omega))
    rw [Int.emod_eq_of_lt (by omega) (by omega), Int.ediv_eq_zero_of_lt (by omega) (by omega)] at h
    rw [hB]
    exact h))
  have HST := Lib.hid (fun (k : Nat) (hk : k < n) w (hs : Stp w) => (show Calls Tryd.prog 127 #[.agg #[.int .i64 W, .int .i64 H], .agg #[.int .i64 (prsF W H S p 2 k).1.1, .int .i64 (prsF W H S p 2 k).1.2], .int .i64 2] w fun e w' => e = .returned (.tuple #[.agg #[.int .i64 (prsF W H S p 2 k).2.1, .int .i64 (prsF W H S p 2 k).2.2], .int .i64 0]) ∧ Below w.heap.size w w' by
    obtain ⟨o1, o2⟩ := hon k (by omega)
    exact step_yes W H _ _ 2 w hs (by omega) (by omega) o1 o2))
  obtain ⟨EX, hEX⟩ : ∃ EX, bxX S p = EX := ⟨_, rfl⟩
  obtain ⟨EY, hEY⟩ : ∃ EY, bxY S p + bxH H S p - 1 = EY := ⟨_, rfl⟩
  obtain ⟨EW, hEW⟩ : ∃ EW : Int, 1 = EW := ⟨_, rfl⟩
  obtain ⟨EH, hEH⟩ : ∃ EH : Int, (n : Int) = EH := ⟨_, rfl⟩
  have HBD := Lib.hid (fun (k : Nat) (hk : k < n) => (show 0 ≤ EX ∧ EX ≤ 256 ∧ (0 ≤ EY ∧ EY ≤ 256) ∧ (0 ≤ (B k).1 ∧ (B k).1 ≤ 256 ∧ 0 ≤ (B k).2 ∧ (B k).2 ≤ 256) ∧ EX + (B k).1 = (prsF W H S p 2 k).1.1 ∧ EY + (B k).2 = (prsF W H S p 2 k).1.2 by
    rw [hB]
    have e : (prsF W H S p 2 k).1 = (bxX S p + (k : Int), bxY S p + bxH H S p - 1) := rfl
    rw [e, hEX, hEY]
    exact ⟨by omega, by omega, ⟨by omega, by omega⟩, ⟨by show (0 : Int) ≤ (k : Int); omega, by show (k : Int) ≤ 256; omega, by show (0 : Int) ≤ 0; omega, by show (0 : Int) ≤ 256; omega⟩, rfl, by show EY + 0 = EY; omega⟩))
  have HSN := Lib.hid (fun (k : Nat) => (show (List.range (k + 1)).map (prsF W H S p 2) = (List.range k).map (prsF W H S p 2) ++ [prsF W H S p 2 k] by rw [List.range_succ, List.map_append]; rfl))
  obtain ⟨L, hL⟩ : ∃ L, prsP W H S p 2 = L := ⟨_, rfl⟩
  have HEND := Lib.hid (show L = (List.range n).map (prsF W H S p 2) by rw [← hL]; unfold prsP; rw [hpn])
  rw [hL]
  clear hL
  have hw1 : IntKind.i64.wrap (bxY S p + bxH H S p) = bxY S p + bxH H S p := IntWalk.i64_in _ (by omega)
  have hw2 : IntKind.i64.wrap (bxY S p + bxH H S p - 1) = EY := by rw [← hEY]; exact IntWalk.i64_in _ (by omega)
  have hmk := fun w => make_pp n (by omega) w
  rw [hn, hEX] at HBX
  have hn0 : (n : Int) ≤ 16 := by omega
  have hn1 : (1 : Int) ≤ (n : Int) := by omega
  generalize bxY S p = x at *
  generalize bxH H S p = u at *
  have HEW := Lib.hid hEW
  have HEH := Lib.hid hEH
  have HN := Lib.hid hn
  have HB := Lib.hid hB
  clear hon hpn hn hEX hEW hEH ht hr h1 h2 h3 h4 hB a1 a2 a3 a4 a5 a6
  have hA := bl0 w
  go_enter Tryd.func103, Tryd.ntmps103
  go_wp2_with fail
  refine (HBX.out _).mono ?_
  rintro e w1 ⟨rfl, hb⟩
  have hk : Below w.heap.size w w1 := by first | exact hb | exact bl_tr (bl_al (bl0 _) _) hb | exact bl_tr (bl_dr (bl_al (bl0 _) _)) hb | exact bl_tr (bl_al (bl_al (bl0 _) _) _) hb | exact bl_tr (bl_dr (bl_al (bl_al (bl0 _) _) _)) hb | exact bl_tr (bl_al (bl_al (bl_al (bl0 _) _) _) _) hb | exact bl_tr (bl_dr (bl_al (bl_al (bl_al (bl0 _) _) _) _)) hb | exact bl_tr (bl_al (bl_al (bl_al (bl_al (bl0 _) _) _) _) _) hb | exact bl_tr (bl_dr (bl_al (bl_al (bl_al (bl_al (bl0 _) _) _) _) _)) hb | exact bl_tr (bl_al (bl_al (bl_al (bl_al (bl_al (bl0 _) _) _) _) _) _) hb | exact bl_tr (bl_dr (bl_al (bl_al (bl_al (bl_al (bl_al (bl0 _) _) _) _) _) _)) hb | exact bl_tr (bl_al (bl_al (bl_al (bl_al (bl_al (bl_al (bl0 _) _) _) _) _) _) _) hb | exact bl_tr (bl_dr (bl_al (bl_al (bl_al (bl_al (bl_al (bl_al (bl0 _) _) _) _) _) _) _)) hb | exact bl_tr (bl_dr (bl0 _)) hb
  replace hA := bl_tr hA hk
  have f0 := cell_later hb (v := .int .i64 W) (a := ⟨w.heap.size, 0, none⟩) (by simp [go_sem])
  have f1 := cell_later hb (v := .int .i64 H) (a := ⟨w.heap.size, 1, none⟩) (by simp [go_sem])
  clear hb hk
  have zf0 := blk_lt f0
  have zf1 := blk_lt f1
  obtain ⟨F, hF⟩ : ∃ F, prsF W H S p 2 = F := ⟨_, rfl⟩
  rw [hF] at HST HBD HSN HEND
  clear hF
  go_wp2_with fail
  go_loopw [8, 9, 10, 11, 12, 13, 14, 47] (fun v _ _ _ _ _ _ i wr => ∃ k : Nat, k ≤ n ∧ i = .int .i64 k ∧ wr.ownsRow (w1.heap.size + 1) 117 4 v k (flatPP ((List.range k).map F)) ∧ Below w.heap.size w wr ∧ wr.cell? ⟨w1.heap.size, 0, none⟩ = some (.int .i64 EX) ∧ wr.cell? ⟨w1.heap.size, 1, none⟩ = some (.int .i64 EY) ∧ wr.cell? ⟨w1.heap.size, 2, none⟩ = some (.int .i64 n) ∧ wr.cell? ⟨w1.heap.size, 3, none⟩ = some (.int .i64 1) ∧ wr.cell? ⟨w.heap.size, 0, none⟩ = some (.int .i64 W) ∧ wr.cell? ⟨w.heap.size, 1, none⟩ = some (.int .i64 H)) (fun _ _ _ _ _ _ _ i _ => n - (intOf i).toNat)
  case atStart =>
    have ho := own_pp (w1.alloc (.cells #[.int .i64 EX, .int .i64 EY, .int .i64 n, .int .i64 1] 28)) n (w1.heap.size + 1) (by simp) (by omega)
    rw [World.size_alloc] at ho
    have hl := bl_al (bl_al (bl0 w1) (.cells #[.int .i64 EX, .int .i64 EY, .int .i64 n, .int .i64 1] 28)) (.cells (madeCells #[.int .i64 0, .int .i64 0, .int .i64 0, .int .i64 0] (n * 4)) 117)
    exact ⟨0, Nat.zero_le _, rfl, ho, bl_tr hA hl, by simp [go_sem], by simp [go_sem], by simp [go_sem], by simp [go_sem], cell_later hl f0, cell_later hl f1⟩
  case round =>
    have hbs := hA.size
    clear hA f0 f1 zf0 hmk HBX
    obtain ⟨k, hk, rfl, hown, hA, e0, e1, e2, e3, f0, f1⟩ := hrel
    have hk0 : (0 : Int) ≤ (k : Int) := by omega
    obtain ⟨va, vc, rfl, hcp⟩ := own_shape hown
    by_cases hlt : k < n
    · have hlt2 : (k : Int) < (n : Int) := by omega
      have hat := HAT.out k hlt
      have hst := HST.out k hlt
      obtain ⟨x1, x2, x3, x4, x5, x6⟩ := HBD.out k hlt
      have hsn := HSN.out k
      obtain ⟨bk, hbk⟩ : ∃ bk, B k = bk := ⟨_, rfl⟩
      obtain ⟨ck, hck⟩ : ∃ ck, F k = ck := ⟨_, rfl⟩
      rw [hbk] at hat x4 x5 x6
      rw [hck] at hst x5 x6 hsn
      have HAT2 := Lib.hid hat
      have HST2 := Lib.hid hst
      have HSN2 := Lib.hid hsn
      have ze := blk_lt e0
      have zf := blk_lt f0
      have w1' : IntKind.i64.wrap (EX + bk.1) = ck.1.1 := by rw [← x5]; exact IntWalk.i64_in _ (by omega)
      have w2' : IntKind.i64.wrap (EY + bk.2) = ck.1.2 := by rw [← x6]; exact IntWalk.i64_in _ (by omega)
      clear hat hst hsn hbk hck
      go_wp2_with fail
      refine (HAT2.out _).mono ?_
      rintro e w3 ⟨rfl, hb⟩
      have hk : Below wr.heap.size wr w3 := by first | exact hb | exact bl_tr (bl_al (bl0 _) _) hb | exact bl_tr (bl_dr (bl_al (bl0 _) _)) hb | exact bl_tr (bl_al (bl_al (bl0 _) _) _) hb | exact bl_tr (bl_dr (bl_al (bl_al (bl0 _) _) _)) hb | exact bl_tr (bl_al (bl_al (bl_al (bl0 _) _) _) _) hb | exact bl_tr (bl_dr (bl_al (bl_al (bl_al (bl0 _) _) _) _)) hb | exact bl_tr (bl_al (bl_al (bl_al (bl_al (bl0 _) _) _) _) _) hb | exact bl_tr (bl_dr (bl_al (bl_al (bl_al (bl_al (bl0 _) _) _) _) _)) hb | exact bl_tr (bl_al (bl_al (bl_al (bl_al (bl_al (bl0 _) _) _) _) _) _) hb | exact bl_tr (bl_dr (bl_al (bl_al (bl_al (bl_al (bl_al (bl0 _) _) _) _) _) _)) hb | exact bl_tr (bl_al (bl_al (bl_al (bl_al (bl_al (bl_al (bl0 _) _) _) _) _) _) _) hb | exact bl_tr (bl_dr (bl_al (bl_al (bl_al (bl_al (bl_al (bl_al (bl0 _) _) _) _) _) _) _)) hb | exact bl_tr (bl_dr (bl0 _)) hb
      replace hA := bl_tr hA hk
      replace hown := own_later hown hk
      replace e0 := cell_later hk e0
      replace e1 := cell_later hk e1
      replace e2 := cell_later hk e2
      replace e3 := cell_later hk e3
      replace f0 := cell_later hk f0
      replace f1 := cell_later hk f1
      clear hb hk
      have ze0 := blk_lt e0
      have ze1 := blk_lt e1
      have ze2 := blk_lt e2
      have ze3 := blk_lt e3
      have zf0 := blk_lt f0
      have zf1 := blk_lt f1
      go_wp2_with fail
      refine (HST2.out _ (hs.below (by first | exact hA | exact (bl_al hA _) | exact (bl_dr (bl_al hA _)) | exact (bl_al (bl_al hA _) _) | exact (bl_dr (bl_al (bl_al hA _) _)) | exact (bl_al (bl_al (bl_al hA _) _) _) | exact (bl_dr (bl_al (bl_al (bl_al hA _) _) _)) | exact (bl_al (bl_al (bl_al (bl_al hA _) _) _) _) | exact (bl_dr (bl_al (bl_al (bl_al (bl_al hA _) _) _) _)) | exact (bl_al (bl_al (bl_al (bl_al (bl_al hA _) _) _) _) _) | exact (bl_dr (bl_al (bl_al (bl_al (bl_al (bl_al hA _) _) _) _) _)) | exact (bl_al (bl_al (bl_al (bl_al (bl_al (bl_al hA _) _) _) _) _) _) | exact (bl_dr (bl_al (bl_al (bl_al (bl_al (bl_al (bl_al hA _) _) _) _) _) _)) | exact (bl_dr hA)))).mono ?_
      rintro e w4 ⟨rfl, hb⟩
      have hk : Below w3.heap.size w3 w4 := by first | exact hb | exact bl_tr (bl_al (bl0 _) _) hb | exact bl_tr (bl_dr (bl_al (bl0 _) _)) hb | exact bl_tr (bl_al (bl_al (bl0 _) _) _) hb | exact bl_tr (bl_dr (bl_al (bl_al (bl0 _) _) _)) hb | exact bl_tr (bl_al (bl_al (bl_al (bl0 _) _) _) _) hb | exact bl_tr (bl_dr (bl_al (bl_al (bl_al (bl0 _) _) _) _)) hb | exact bl_tr (bl_al (bl_al (bl_al (bl_al (bl0 _) _) _) _) _) hb | exact bl_tr (bl_dr (bl_al (bl_al (bl_al (bl_al (bl0 _) _) _) _) _)) hb | exact bl_tr (bl_al (bl_al (bl_al (bl_al (bl_al (bl0 _) _) _) _) _) _) hb | exact bl_tr (bl_dr (bl_al (bl_al (bl_al (bl_al (bl_al (bl0 _) _) _) _) _) _)) hb | exact bl_tr (bl_al (bl_al (bl_al (bl_al (bl_al (bl_al (bl0 _) _) _) _) _) _) _) hb | exact bl_tr (bl_dr (bl_al (bl_al (bl_al (bl_al (bl_al (bl_al (bl0 _) _) _) _) _) _) _)) hb | exact bl_tr (bl_dr (bl0 _)) hb
      replace hA := bl_tr hA hk
      replace hown := own_later hown hk
      replace e0 := cell_later hk e0
      replace e1 := cell_later hk e1
      replace e2 := cell_later hk e2
      replace e3 := cell_later hk e3
      replace f0 := cell_later hk f0
      replace f1 := cell_later hk f1
      have l0 := cell_later hb (v := .int .i64 ck.1.1) (a := ⟨w3.heap.size + 1, 0, none⟩) (by simp [go_sem])
      have l1 := cell_later hb (v := .int .i64 ck.1.2) (a := ⟨w3.heap.size + 1, 1, none⟩) (by simp [go_sem])
      clear hb hk
      have ze0 := blk_lt e0
      have ze1 := blk_lt e1
      have ze2 := blk_lt e2
      have ze3 := blk_lt e3
      have zf0 := blk_lt f0
      have zf1 := blk_lt f1
      have zl0 := blk_lt l0
      have zl1 := blk_lt l1
      clear w1' w2' x1 x2 x3 x4 x5 x6
      go_wp2_with (at_builtin; refine wpList_append_own _ rfl _ _ 103 rfl (w1.heap.size + 1) 117 i0 (.agg #[.int .i64 0, .int .i64 0, .int .i64 0, .int .i64 0]) 4 32 Tryd.underlying103 hi hz0 hz1 hz2 rfl (by decide) _ _ _ rfl ((hown.alloc _).alloc _) ⟨w4.heap.size + 1, 0, none⟩ 1 1 [.int .i64 ck.1.1, .int .i64 ck.1.2, .int .i64 ck.2.1, .int .i64 ck.2.2] rfl rfl ?c1 ?c2 ?c3 ?c4 ?c5 ?_)
      case c1 => (have := cell_four (w4.alloc (.cells #[.int .i64 ck.2.1, .int .i64 ck.2.2] 30)) (.int .i64 ck.1.1) (.int .i64 ck.1.2) (.int .i64 ck.2.1) (.int .i64 ck.2.2) 117; rw [World.size_alloc] at this; exact this)
      case c2 => intro u hu; simp at hu; rcases hu with rfl | rfl | rfl | rfl <;> rfl
      case c3 => unfold maxLen; omega
      case c4 => omega
      case c5 => (simp; omega)
      intro v' w5 hown' hgrow _
      have hl2 : Below w4.heap.size w4 ((w4.alloc (.cells #[.int .i64 ck.2.1, .int .i64 ck.2.2] 30)).alloc (.cells #[.int .i64 ck.1.1, .int .i64 ck.1.2, .int .i64 ck.2.1, .int .i64 ck.2.2] 117)) := bl_al (bl_al (bl0 _) _) _
      have hB5 : Below w.heap.size w w5 := (bl_tr hA hl2).grown hgrow (by have := hA.size; simp; omega) (fun j hj => by have := (hown.lt j hj).1; omega)
      have hne : ∀ j, j < w1.heap.size + 1 → some j ≠ Value.ownBlock (.slice va k vc) := fun j hj e => by have := (hown.lt _ e.symm).1; omega
      have e0' := hgrow.cell (cell_later hl2 e0) (hne w1.heap.size (Nat.lt_succ_self _))
      have e1' := hgrow.cell (cell_later hl2 e1) (hne w1.heap.size (Nat.lt_succ_self _))
      have e2' := hgrow.cell (cell_later hl2 e2) (hne w1.heap.size (Nat.lt_succ_self _))
      have e3' := hgrow.cell (cell_later hl2 e3) (hne w1.heap.size (Nat.lt_succ_self _))
      have f0' := hgrow.cell (cell_later hl2 f0) (hne w.heap.size (by omega))
      have f1' := hgrow.cell (cell_later hl2 f1) (hne w.heap.size (by omega))
      rw [← flatPP_snoc, ← HSN2.out] at hown'
      clear hgrow hown hl2 hne e0 e1 e2 e3 f0 f1 l0 l1 hA
      go_wp2
      go_roundw
      case rel => exact ⟨k + 1, by omega, by go_num, hown', hB5, e0', e1', e2', e3', f0', f1'⟩
      case measure => simp [intOf]; omega
    · obtain rfl : k = n := by omega
      have hend := HEND.out
      have hrow : RowPP wr va ((List.range k).map F) := rowPP_of_own (cap := vc) (by simpa using hown)
      have HR := Lib.hid (show ∀ e, e = Ending.returned (.slice va k vc) → PrsR L w e wr from fun e he => ⟨va, vc, by rw [he, hend]; simp, by rw [hend]; exact hrow, hA, by rw [hend]; simpa using hcp⟩)
      have hge : ¬ (k : Int) < (k : Int) := by omega
      clear hown hrow hend
      go_wp2
      go_ret
      exact HR.out _ rfl
end Go.Proofs.YtbdfjdipjacamaaDoor
