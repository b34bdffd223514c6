/- PartSides: the law's walk, of two cells of two clusters. -/
import Derived.Test.YtdajddcladapaaaDoorDw
import Derived.Test.YtdajddcladapaaaDoorLpwhole
import Derived.Deep.CutRange
namespace Go.Proofs.YtdajddcladapaaaDoor
open Go.RowKit

theorem besL_len {W H S a : Int} : (besL W H S a).length ≤ 4 := by
  unfold besL
  split
  · exact besP_len W H S a 4
  · simp
theorem there_succ (k0 k : Nat) : (if k0 < k + 1 then (1 : Int) else 0) = (if k0 < k then 1 else 0) + (if k = k0 then 1 else 0) := by
  by_cases h1 : k0 < k
  · rw [if_pos (by omega), if_pos h1, if_neg (by omega)]; rfl
  · by_cases h2 : k = k0
    · rw [if_pos (by omega), if_neg h1, if_pos h2]; rfl
    · rw [if_neg (by omega), if_neg h1, if_neg h2]; rfl

set_option maxRecDepth 100000 in
set_option maxHeartbeats 8000000 in
theorem psides_main (W H S d : Int) (c n : IC) (w : World) (hs : Stp w) (hsm : smallP W H S = true) (hr : rightP W H S = true) (g5 : 0 ≤ d) (g6 : d ≤ 3) (hc : onB W H c = true) (hn : stepI c d = n) (hnon : onB W H n = true)
    (hab : ofP W S c ≠ ofP W S n) (N : Nat) (F : Nat → IC × IC) (k0 : Nat) (dd f g : Int) (hsd : Sides W H S (ofP W S c) (ofP W S n) (if d = 0 ∨ d = 3 then (n, c) else (c, n)) N F k0 dd f g) :
    Calls Tryd.prog 7 #[.agg #[.int .i64 W, .int .i64 H, .int .i64 S], .agg #[.int .i64 c.1, .int .i64 c.2], .int .i64 d] w fun e w' => e = .returned (.bool true) ∧ Below w.heap.size w w' := by
  have hA := bl0 w
  have H0 := Lib.hid (fun w => small11 W H S w)
  rw [hsm] at H0
  obtain ⟨a1, a2, a3, a4, g1, g3, g2, g4⟩ := inB_iff.1 hc
  have h1 : ¬ c.1 < 0 := by omega
  have h2 : ¬ c.2 < 0 := by omega
  have h3 : ¬ W ≤ c.1 := by omega
  have h4 : ¬ H ≤ c.2 := by omega
  have h5 : ¬ d < 0 := by omega
  have h6 : ¬ 3 < d := by omega
  have HST := Lib.hid (fun w => step8_p c.1 c.2 d w (by omega) g5 (by omega))
  rw [show ((c.1, c.2) : IC) = c from rfl, hn] at HST
  have xc : ofX W H S c = 0 := ofX_yes.2 ⟨hr, hc⟩
  have vc' : ofV W H S c = ofP W S c := by unfold ofV; rw [if_pos xc]
  have HOA := Lib.hid (fun w => of_p W H S c w)
  rw [xc, vc'] at HOA
  have HOB := Lib.hid (fun w => of_p W H S n w)
  have xn : ofX W H S n = 0 := ofX_yes.2 ⟨hr, hnon⟩
  have vn : ofV W H S n = ofP W S n := by unfold ofV; rw [if_pos xn]
  rw [xn, vn] at HOB
  have ba := of_bd hr hc
  have bb := of_bd hr hnon
  have xa : plcX W H S (ofP W S c) = 0 := plcX_yes.2 ⟨hr, ba⟩
  have xb : plcX W H S (ofP W S n) = 0 := plcX_yes.2 ⟨hr, bb⟩
  have H5 := Lib.hid (fun w hs => border_p W H S (ofP W S c) (ofP W S n) w hs)
  have H6 := Lib.hid (fun w hs => border_p W H S (ofP W S n) (ofP W S c) w hs)
  unfold BorR at H5 H6
  obtain ⟨⟨⟨s1, s2⟩, s3, s4, s5⟩, ⟨⟨s6, s7⟩, s8, s9⟩, ⟨s10, s11⟩, s12, s13, s14⟩ := hsd
  have H7 := Lib.hid (fun w hs => beside_p W H S (ofP W S c) w hs)
  have H8 := Lib.hid (fun w hs => beside_p W H S (ofP W S n) w hs)
  unfold BesR at H7 H8
  rw [xa] at H7
  rw [xb] at H8
  rw [s6, s7] at H5
  rw [s8, s9] at H6
  obtain ⟨pr, hpr⟩ : ∃ pr, (if d = 0 ∨ d = 3 then (n, c) else (c, n)) = pr := ⟨_, rfl⟩
  rw [hpr] at s12
  obtain ⟨L, hL⟩ : ∃ L, (List.range N).map F = L := ⟨_, rfl⟩
  rw [hL] at H5 H6
  have hll : L.length = N := by rw [← hL]; simp
  have hat : ∀ k (h : k < L.length), L[k] = F k := fun k h => by subst hL; simp
  have H9 := Lib.hid (fun c c2 cap cap2 w (h1 : RowPP w c L) (h2 : RowPP w c2 L) => pairs_any c c2 cap cap2 L L w h1 h2 (by omega))
  simp only [decide_true] at H9
  have hla := @besL_len W H S (ofP W S c)
  have hlb := @besL_len W H S (ofP W S n)
  obtain ⟨BA, hBA⟩ : ∃ BA, besL W H S (ofP W S c) = BA := ⟨_, rfl⟩
  obtain ⟨BB, hBB⟩ : ∃ BB, besL W H S (ofP W S n) = BB := ⟨_, rfl⟩
  rw [hBA] at H7 s10 hla
  rw [hBB] at H8 s11 hlb
  obtain ⟨b, hb'⟩ : ∃ b, ofP W S n = b := ⟨_, rfl⟩
  obtain ⟨a, ha'⟩ : ∃ a, ofP W S c = a := ⟨_, rfl⟩
  have HT1 := Lib.hid (fun c cap w (h : RowN w c BA) => times11 c cap BA b w h (by omega))
  have HT2 := Lib.hid (fun c cap w (h : RowN w c BB) => times11 c cap BB a w h (by omega))
  rw [hb'] at HOB H5 H6 H8 s5 s10 hab bb
  rw [ha'] at HOA H5 H6 H7 s5 s11 hab ba
  rw [s10] at HT1
  rw [s11] at HT2
  have hab2 : (a == b) = false := by rw [beq_eq_false_iff_ne]; exact hab
  have HOK := Lib.hid (fun (k : Nat) (hk : k < N) => (show (∀ w, Calls Tryd.prog 10 #[.agg #[.int .i64 W, .int .i64 H, .int .i64 S], .agg #[.int .i64 (F k).1.1, .int .i64 (F k).1.2]] w fun e w' => e = .returned (.tuple #[.int .i64 f, .int .i64 0]) ∧ Below w.heap.size w w') ∧
      (∀ w, Calls Tryd.prog 10 #[.agg #[.int .i64 W, .int .i64 H, .int .i64 S], .agg #[.int .i64 (F k).2.1, .int .i64 (F k).2.2]] w fun e w' => e = .returned (.tuple #[.int .i64 g, .int .i64 0]) ∧ Below w.heap.size w w') by
    obtain ⟨⟨q1, q2⟩, q3, q4, q5⟩ := s13 k hk
    refine ⟨fun w => ?_, fun w => ?_⟩
    · have h := of_p W H S (F k).1 w
      have x0 : ofX W H S (F k).1 = 0 := ofX_yes.2 ⟨hr, q1⟩
      have v0 : ofV W H S (F k).1 = ofP W S (F k).1 := by unfold ofV; rw [if_pos x0]
      rw [x0, v0, q3] at h
      exact h
    · have h := of_p W H S (F k).2 w
      have x0 : ofX W H S (F k).2 = 0 := ofX_yes.2 ⟨hr, q2⟩
      have v0 : ofV W H S (F k).2 = ofP W S (F k).2 := by unfold ofV; rw [if_pos x0]
      rw [x0, v0, q4] at h
      exact h))
  have HSK := Lib.hid (fun (k : Nat) (hk : k < N) (e : Int) (e0 : 0 ≤ e) (e4 : e < 4) => (show ∀ w, Calls Tryd.prog 25 #[.agg #[.int .i64 (F k).1.1, .int .i64 (F k).1.2], .int .i64 e] w fun e' w' => e' = .returned (.agg #[.int .i64 (stepI (F k).1 e).1, .int .i64 (stepI (F k).1 e).2]) ∧ Below w.heap.size w w' from fun w => by
    obtain ⟨⟨q1, q2⟩, _⟩ := s13 k hk
    obtain ⟨_, _, _, _, z1, z2, z3, z4⟩ := inB_iff.1 q1
    exact step8_p (F k).1.1 (F k).1.2 e w ⟨by omega, by omega, by omega, by omega⟩ e0 e4))
  have HDD := Lib.hid (fun (k : Nat) (hk : k < N) => (s13 k hk).2.2.2)
  have HPR := Lib.hid s12
  have HRS := Lib.hid s14
  have HAT := Lib.hid hat
  have HLL := Lib.hid hll
  have fb0 : 0 ≤ f ∧ f ≤ 20000 ∧ 0 ≤ g ∧ g ≤ 20000 ∧ 0 ≤ a ∧ a ≤ 20000 ∧ 0 ≤ b ∧ b ≤ 20000 := by
    obtain ⟨_, _, n2⟩ := cntN_eq hr
    obtain ⟨⟨q1, q2⟩, q3, q4, _⟩ := s13 k0 s2
    have u1 := of_bd hr q1
    have u2 := of_bd hr q2
    rw [q3] at u1
    rw [q4] at u2
    omega
  obtain ⟨fb1, fb2, fb3, fb4, fb5, fb6, fb7, fb8⟩ := fb0
  have HPRV := Lib.hid hpr
  clear s7 s9 hpr hL hat hll s12 s13 s14 hBA hBB hb' ha' xc vc' xn vn xa xb hr hsm hc hnon hn g1 g2 g3 g4 s10 s11 hla hlb ba bb hab
  have w1' : IntKind.i64.wrap (f + g) = f + g := IntWalk.i64_in _ (by omega)
  have w2' : IntKind.i64.wrap (a + b) = a + b := IntWalk.i64_in _ (by omega)
  have hne5 : ((f + g) != (a + b)) = false := by rw [bne_eq_false_iff_eq]; exact s5
  have hgt5 : ¬ g < f := by omega
  obtain ⟨sm, hsm⟩ : ∃ sm, f + g = sm := ⟨_, rfl⟩
  have hsm2 : a + b = sm := by omega
  rw [hsm] at w1' hne5
  rw [hsm2] at w2' hne5
  have HSD := Lib.hid s3
  clear s5 s3
  go_enter Tryd.func7, Tryd.ntmps7
  go_wp2_with fail
  refine (H0.out _).mono ?_
  rintro e w1 ⟨rfl, hb⟩
  have hk : Below w.heap.size w w1 := by first | exact hb | exact bl_tr (bl_al (bl0 _) _) hb | exact bl_tr (bl_dr (bl_al (bl0 _) _)) hb | exact bl_tr (bl_al (bl_al (bl0 _) _) _) hb | exact bl_tr (bl_dr (bl_al (bl_al (bl0 _) _) _)) hb | exact bl_tr (bl_al (bl_al (bl_al (bl0 _) _) _) _) hb | exact bl_tr (bl_dr (bl_al (bl_al (bl_al (bl0 _) _) _) _)) hb | exact bl_tr (bl_al (bl_al (bl_al (bl_al (bl0 _) _) _) _) _) hb | exact bl_tr (bl_dr (bl_al (bl_al (bl_al (bl_al (bl0 _) _) _) _) _)) hb | exact bl_tr (bl_al (bl_al (bl_al (bl_al (bl_al (bl0 _) _) _) _) _) _) hb | exact bl_tr (bl_dr (bl_al (bl_al (bl_al (bl_al (bl_al (bl0 _) _) _) _) _) _)) hb | exact bl_tr (bl_al (bl_al (bl_al (bl_al (bl_al (bl_al (bl0 _) _) _) _) _) _) _) hb | exact bl_tr (bl_dr (bl_al (bl_al (bl_al (bl_al (bl_al (bl_al (bl0 _) _) _) _) _) _) _)) hb | exact bl_tr (bl_dr (bl0 _)) hb
  replace hA := bl_tr hA hk
  have p0 := cell_later hb (v := .int .i64 W) (a := ⟨w.heap.size, 0, none⟩) (by simp [go_sem])
  have p1 := cell_later hb (v := .int .i64 H) (a := ⟨w.heap.size, 1, none⟩) (by simp [go_sem])
  have p2 := cell_later hb (v := .int .i64 S) (a := ⟨w.heap.size, 2, none⟩) (by simp [go_sem])
  have c0 := cell_later hb (v := .int .i64 c.1) (a := ⟨w.heap.size + 1, 0, none⟩) (by simp [go_sem])
  have c1 := cell_later hb (v := .int .i64 c.2) (a := ⟨w.heap.size + 1, 1, none⟩) (by simp [go_sem])
  clear hb hk
  have zp0 := blk_lt p0
  have zp1 := blk_lt p1
  have zp2 := blk_lt p2
  have zc0 := blk_lt c0
  have zc1 := blk_lt c1
  go_wp2_with fail
  refine (HST.out _).mono ?_
  rintro e w2 ⟨rfl, hb⟩
  have hk : Below w1.heap.size w1 w2 := by first | exact hb | exact bl_tr (bl_al (bl0 _) _) hb | exact bl_tr (bl_dr (bl_al (bl0 _) _)) hb | exact bl_tr (bl_al (bl_al (bl0 _) _) _) hb | exact bl_tr (bl_dr (bl_al (bl_al (bl0 _) _) _)) hb | exact bl_tr (bl_al (bl_al (bl_al (bl0 _) _) _) _) hb | exact bl_tr (bl_dr (bl_al (bl_al (bl_al (bl0 _) _) _) _)) hb | exact bl_tr (bl_al (bl_al (bl_al (bl_al (bl0 _) _) _) _) _) hb | exact bl_tr (bl_dr (bl_al (bl_al (bl_al (bl_al (bl0 _) _) _) _) _)) hb | exact bl_tr (bl_al (bl_al (bl_al (bl_al (bl_al (bl0 _) _) _) _) _) _) hb | exact bl_tr (bl_dr (bl_al (bl_al (bl_al (bl_al (bl_al (bl0 _) _) _) _) _) _)) hb | exact bl_tr (bl_al (bl_al (bl_al (bl_al (bl_al (bl_al (bl0 _) _) _) _) _) _) _) hb | exact bl_tr (bl_dr (bl_al (bl_al (bl_al (bl_al (bl_al (bl_al (bl0 _) _) _) _) _) _) _)) hb | exact bl_tr (bl_dr (bl0 _)) hb
  replace hA := bl_tr hA hk
  replace p0 := cell_later hk p0
  replace p1 := cell_later hk p1
  replace p2 := cell_later hk p2
  replace c0 := cell_later hk c0
  replace c1 := cell_later hk c1
  clear hb hk
  have zp0 := blk_lt p0
  have zp1 := blk_lt p1
  have zp2 := blk_lt p2
  have zc0 := blk_lt c0
  have zc1 := blk_lt c1
  go_wp2_with fail
  refine (HOA.out _).mono ?_
  rintro e w3 ⟨rfl, hb⟩
  have hk : Below w2.heap.size w2 w3 := by first | exact hb | exact bl_tr (bl_al (bl0 _) _) hb | exact bl_tr (bl_dr (bl_al (bl0 _) _)) hb | exact bl_tr (bl_al (bl_al (bl0 _) _) _) hb | exact bl_tr (bl_dr (bl_al (bl_al (bl0 _) _) _)) hb | exact bl_tr (bl_al (bl_al (bl_al (bl0 _) _) _) _) hb | exact bl_tr (bl_dr (bl_al (bl_al (bl_al (bl0 _) _) _) _)) hb | exact bl_tr (bl_al (bl_al (bl_al (bl_al (bl0 _) _) _) _) _) hb | exact bl_tr (bl_dr (bl_al (bl_al (bl_al (bl_al (bl0 _) _) _) _) _)) hb | exact bl_tr (bl_al (bl_al (bl_al (bl_al (bl_al (bl0 _) _) _) _) _) _) hb | exact bl_tr (bl_dr (bl_al (bl_al (bl_al (bl_al (bl_al (bl0 _) _) _) _) _) _)) hb | exact bl_tr (bl_al (bl_al (bl_al (bl_al (bl_al (bl_al (bl0 _) _) _) _) _) _) _) hb | exact bl_tr (bl_dr (bl_al (bl_al (bl_al (bl_al (bl_al (bl_al (bl0 _) _) _) _) _) _) _)) hb | exact bl_tr (bl_dr (bl0 _)) hb
  replace hA := bl_tr hA hk
  replace p0 := cell_later hk p0
  replace p1 := cell_later hk p1
  replace p2 := cell_later hk p2
  replace c0 := cell_later hk c0
  replace c1 := cell_later hk c1
  have m0 := cell_later hb (v := .int .i64 n.1) (a := ⟨w2.heap.size, 0, none⟩) (by simp [go_sem])
  have m1 := cell_later hb (v := .int .i64 n.2) (a := ⟨w2.heap.size, 1, none⟩) (by simp [go_sem])
  clear hb hk
  have zp0 := blk_lt p0
  have zp1 := blk_lt p1
  have zp2 := blk_lt p2
  have zc0 := blk_lt c0
  have zc1 := blk_lt c1
  have zm0 := blk_lt m0
  have zm1 := blk_lt m1
  go_wp2_with fail
  refine (HOB.out _).mono ?_
  rintro e w4 ⟨rfl, hb⟩
  have hk : Below w3.heap.size w3 w4 := by first | exact hb | exact bl_tr (bl_al (bl0 _) _) hb | exact bl_tr (bl_dr (bl_al (bl0 _) _)) hb | exact bl_tr (bl_al (bl_al (bl0 _) _) _) hb | exact bl_tr (bl_dr (bl_al (bl_al (bl0 _) _) _)) hb | exact bl_tr (bl_al (bl_al (bl_al (bl0 _) _) _) _) hb | exact bl_tr (bl_dr (bl_al (bl_al (bl_al (bl0 _) _) _) _)) hb | exact bl_tr (bl_al (bl_al (bl_al (bl_al (bl0 _) _) _) _) _) hb | exact bl_tr (bl_dr (bl_al (bl_al (bl_al (bl_al (bl0 _) _) _) _) _)) hb | exact bl_tr (bl_al (bl_al (bl_al (bl_al (bl_al (bl0 _) _) _) _) _) _) hb | exact bl_tr (bl_dr (bl_al (bl_al (bl_al (bl_al (bl_al (bl0 _) _) _) _) _) _)) hb | exact bl_tr (bl_al (bl_al (bl_al (bl_al (bl_al (bl_al (bl0 _) _) _) _) _) _) _) hb | exact bl_tr (bl_dr (bl_al (bl_al (bl_al (bl_al (bl_al (bl_al (bl0 _) _) _) _) _) _) _)) hb | exact bl_tr (bl_dr (bl0 _)) hb
  replace hA := bl_tr hA hk
  replace p0 := cell_later hk p0
  replace p1 := cell_later hk p1
  replace p2 := cell_later hk p2
  replace c0 := cell_later hk c0
  replace c1 := cell_later hk c1
  replace m0 := cell_later hk m0
  replace m1 := cell_later hk m1
  clear hb hk
  have zp0 := blk_lt p0
  have zp1 := blk_lt p1
  have zp2 := blk_lt p2
  have zc0 := blk_lt c0
  have zc1 := blk_lt c1
  have zm0 := blk_lt m0
  have zm1 := blk_lt m1
  go_wp2_with fail
  refine (H5.out _ (hs.below (by first | exact hA | exact (bl_al hA _) | exact (bl_dr (bl_al hA _)) | exact (bl_al (bl_al hA _) _) | exact (bl_dr (bl_al (bl_al hA _) _)) | exact (bl_al (bl_al (bl_al hA _) _) _) | exact (bl_dr (bl_al (bl_al (bl_al hA _) _) _)) | exact (bl_al (bl_al (bl_al (bl_al hA _) _) _) _) | exact (bl_dr (bl_al (bl_al (bl_al (bl_al hA _) _) _) _)) | exact (bl_al (bl_al (bl_al (bl_al (bl_al hA _) _) _) _) _) | exact (bl_dr (bl_al (bl_al (bl_al (bl_al (bl_al hA _) _) _) _) _)) | exact (bl_al (bl_al (bl_al (bl_al (bl_al (bl_al hA _) _) _) _) _) _) | exact (bl_dr (bl_al (bl_al (bl_al (bl_al (bl_al (bl_al hA _) _) _) _) _) _)) | exact (bl_dr hA)))).mono ?_
  rintro e w5 ⟨la, lc, rfl, hl1, hb⟩
  have hk : Below w4.heap.size w4 w5 := by first | exact hb | exact bl_tr (bl_al (bl0 _) _) hb | exact bl_tr (bl_dr (bl_al (bl0 _) _)) hb | exact bl_tr (bl_al (bl_al (bl0 _) _) _) hb | exact bl_tr (bl_dr (bl_al (bl_al (bl0 _) _) _)) hb | exact bl_tr (bl_al (bl_al (bl_al (bl0 _) _) _) _) hb | exact bl_tr (bl_dr (bl_al (bl_al (bl_al (bl0 _) _) _) _)) hb | exact bl_tr (bl_al (bl_al (bl_al (bl_al (bl0 _) _) _) _) _) hb | exact bl_tr (bl_dr (bl_al (bl_al (bl_al (bl_al (bl0 _) _) _) _) _)) hb | exact bl_tr (bl_al (bl_al (bl_al (bl_al (bl_al (bl0 _) _) _) _) _) _) hb | exact bl_tr (bl_dr (bl_al (bl_al (bl_al (bl_al (bl_al (bl0 _) _) _) _) _) _)) hb | exact bl_tr (bl_al (bl_al (bl_al (bl_al (bl_al (bl_al (bl0 _) _) _) _) _) _) _) hb | exact bl_tr (bl_dr (bl_al (bl_al (bl_al (bl_al (bl_al (bl_al (bl0 _) _) _) _) _) _) _)) hb | exact bl_tr (bl_dr (bl0 _)) hb
  replace hA := bl_tr hA hk
  replace p0 := cell_later hk p0
  replace p1 := cell_later hk p1
  replace p2 := cell_later hk p2
  replace c0 := cell_later hk c0
  replace c1 := cell_later hk c1
  replace m0 := cell_later hk m0
  replace m1 := cell_later hk m1
  clear hb hk
  have zp0 := blk_lt p0
  have zp1 := blk_lt p1
  have zp2 := blk_lt p2
  have zc0 := blk_lt c0
  have zc1 := blk_lt c1
  have zm0 := blk_lt m0
  have zm1 := blk_lt m1
  go_wp2_with fail
  refine (H6.out _ (hs.below (by first | exact hA | exact (bl_al hA _) | exact (bl_dr (bl_al hA _)) | exact (bl_al (bl_al hA _) _) | exact (bl_dr (bl_al (bl_al hA _) _)) | exact (bl_al (bl_al (bl_al hA _) _) _) | exact (bl_dr (bl_al (bl_al (bl_al hA _) _) _)) | exact (bl_al (bl_al (bl_al (bl_al hA _) _) _) _) | exact (bl_dr (bl_al (bl_al (bl_al (bl_al hA _) _) _) _)) | exact (bl_al (bl_al (bl_al (bl_al (bl_al hA _) _) _) _) _) | exact (bl_dr (bl_al (bl_al (bl_al (bl_al (bl_al hA _) _) _) _) _)) | exact (bl_al (bl_al (bl_al (bl_al (bl_al (bl_al hA _) _) _) _) _) _) | exact (bl_dr (bl_al (bl_al (bl_al (bl_al (bl_al (bl_al hA _) _) _) _) _) _)) | exact (bl_dr hA)))).mono ?_
  rintro e w6 ⟨ma, mc, rfl, hl2, hb⟩
  have hk : Below w5.heap.size w5 w6 := by first | exact hb | exact bl_tr (bl_al (bl0 _) _) hb | exact bl_tr (bl_dr (bl_al (bl0 _) _)) hb | exact bl_tr (bl_al (bl_al (bl0 _) _) _) hb | exact bl_tr (bl_dr (bl_al (bl_al (bl0 _) _) _)) hb | exact bl_tr (bl_al (bl_al (bl_al (bl0 _) _) _) _) hb | exact bl_tr (bl_dr (bl_al (bl_al (bl_al (bl0 _) _) _) _)) hb | exact bl_tr (bl_al (bl_al (bl_al (bl_al (bl0 _) _) _) _) _) hb | exact bl_tr (bl_dr (bl_al (bl_al (bl_al (bl_al (bl0 _) _) _) _) _)) hb | exact bl_tr (bl_al (bl_al (bl_al (bl_al (bl_al (bl0 _) _) _) _) _) _) hb | exact bl_tr (bl_dr (bl_al (bl_al (bl_al (bl_al (bl_al (bl0 _) _) _) _) _) _)) hb | exact bl_tr (bl_al (bl_al (bl_al (bl_al (bl_al (bl_al (bl0 _) _) _) _) _) _) _) hb | exact bl_tr (bl_dr (bl_al (bl_al (bl_al (bl_al (bl_al (bl_al (bl0 _) _) _) _) _) _) _)) hb | exact bl_tr (bl_dr (bl0 _)) hb
  replace hA := bl_tr hA hk
  replace hl1 := hl1.below hk
  replace p0 := cell_later hk p0
  replace p1 := cell_later hk p1
  replace p2 := cell_later hk p2
  replace c0 := cell_later hk c0
  replace c1 := cell_later hk c1
  replace m0 := cell_later hk m0
  replace m1 := cell_later hk m1
  clear hb hk
  have zp0 := blk_lt p0
  have zp1 := blk_lt p1
  have zp2 := blk_lt p2
  have zc0 := blk_lt c0
  have zc1 := blk_lt c1
  have zm0 := blk_lt m0
  have zm1 := blk_lt m1
  go_wp2_with fail
  refine (H7.out _ (hs.below (by first | exact hA | exact (bl_al hA _) | exact (bl_dr (bl_al hA _)) | exact (bl_al (bl_al hA _) _) | exact (bl_dr (bl_al (bl_al hA _) _)) | exact (bl_al (bl_al (bl_al hA _) _) _) | exact (bl_dr (bl_al (bl_al (bl_al hA _) _) _)) | exact (bl_al (bl_al (bl_al (bl_al hA _) _) _) _) | exact (bl_dr (bl_al (bl_al (bl_al (bl_al hA _) _) _) _)) | exact (bl_al (bl_al (bl_al (bl_al (bl_al hA _) _) _) _) _) | exact (bl_dr (bl_al (bl_al (bl_al (bl_al (bl_al hA _) _) _) _) _)) | exact (bl_al (bl_al (bl_al (bl_al (bl_al (bl_al hA _) _) _) _) _) _) | exact (bl_dr (bl_al (bl_al (bl_al (bl_al (bl_al (bl_al hA _) _) _) _) _) _)) | exact (bl_dr hA)))).mono ?_
  rintro e w7 ⟨na, nc, rfl, hn1, hb⟩
  have hk : Below w6.heap.size w6 w7 := by first | exact hb | exact bl_tr (bl_al (bl0 _) _) hb | exact bl_tr (bl_dr (bl_al (bl0 _) _)) hb | exact bl_tr (bl_al (bl_al (bl0 _) _) _) hb | exact bl_tr (bl_dr (bl_al (bl_al (bl0 _) _) _)) hb | exact bl_tr (bl_al (bl_al (bl_al (bl0 _) _) _) _) hb | exact bl_tr (bl_dr (bl_al (bl_al (bl_al (bl0 _) _) _) _)) hb | exact bl_tr (bl_al (bl_al (bl_al (bl_al (bl0 _) _) _) _) _) hb | exact bl_tr (bl_dr (bl_al (bl_al (bl_al (bl_al (bl0 _) _) _) _) _)) hb | exact bl_tr (bl_al (bl_al (bl_al (bl_al (bl_al (bl0 _) _) _) _) _) _) hb | exact bl_tr (bl_dr (bl_al (bl_al (bl_al (bl_al (bl_al (bl0 _) _) _) _) _) _)) hb | exact bl_tr (bl_al (bl_al (bl_al (bl_al (bl_al (bl_al (bl0 _) _) _) _) _) _) _) hb | exact bl_tr (bl_dr (bl_al (bl_al (bl_al (bl_al (bl_al (bl_al (bl0 _) _) _) _) _) _) _)) hb | exact bl_tr (bl_dr (bl0 _)) hb
  replace hA := bl_tr hA hk
  replace hl1 := hl1.below hk
  replace hl2 := hl2.below hk
  replace p0 := cell_later hk p0
  replace p1 := cell_later hk p1
  replace p2 := cell_later hk p2
  replace c0 := cell_later hk c0
  replace c1 := cell_later hk c1
  replace m0 := cell_later hk m0
  replace m1 := cell_later hk m1
  clear hb hk
  have zp0 := blk_lt p0
  have zp1 := blk_lt p1
  have zp2 := blk_lt p2
  have zc0 := blk_lt c0
  have zc1 := blk_lt c1
  have zm0 := blk_lt m0
  have zm1 := blk_lt m1
  go_wp2_with fail
  refine (H8.out _ (hs.below (by first | exact hA | exact (bl_al hA _) | exact (bl_dr (bl_al hA _)) | exact (bl_al (bl_al hA _) _) | exact (bl_dr (bl_al (bl_al hA _) _)) | exact (bl_al (bl_al (bl_al hA _) _) _) | exact (bl_dr (bl_al (bl_al (bl_al hA _) _) _)) | exact (bl_al (bl_al (bl_al (bl_al hA _) _) _) _) | exact (bl_dr (bl_al (bl_al (bl_al (bl_al hA _) _) _) _)) | exact (bl_al (bl_al (bl_al (bl_al (bl_al hA _) _) _) _) _) | exact (bl_dr (bl_al (bl_al (bl_al (bl_al (bl_al hA _) _) _) _) _)) | exact (bl_al (bl_al (bl_al (bl_al (bl_al (bl_al hA _) _) _) _) _) _) | exact (bl_dr (bl_al (bl_al (bl_al (bl_al (bl_al (bl_al hA _) _) _) _) _) _)) | exact (bl_dr hA)))).mono ?_
  rintro e w8 ⟨ba, bc, rfl, hn2, hb⟩
  have hk : Below w7.heap.size w7 w8 := by first | exact hb | exact bl_tr (bl_al (bl0 _) _) hb | exact bl_tr (bl_dr (bl_al (bl0 _) _)) hb | exact bl_tr (bl_al (bl_al (bl0 _) _) _) hb | exact bl_tr (bl_dr (bl_al (bl_al (bl0 _) _) _)) hb | exact bl_tr (bl_al (bl_al (bl_al (bl0 _) _) _) _) hb | exact bl_tr (bl_dr (bl_al (bl_al (bl_al (bl0 _) _) _) _)) hb | exact bl_tr (bl_al (bl_al (bl_al (bl_al (bl0 _) _) _) _) _) hb | exact bl_tr (bl_dr (bl_al (bl_al (bl_al (bl_al (bl0 _) _) _) _) _)) hb | exact bl_tr (bl_al (bl_al (bl_al (bl_al (bl_al (bl0 _) _) _) _) _) _) hb | exact bl_tr (bl_dr (bl_al (bl_al (bl_al (bl_al (bl_al (bl0 _) _) _) _) _) _)) hb | exact bl_tr (bl_al (bl_al (bl_al (bl_al (bl_al (bl_al (bl0 _) _) _) _) _) _) _) hb | exact bl_tr (bl_dr (bl_al (bl_al (bl_al (bl_al (bl_al (bl_al (bl0 _) _) _) _) _) _) _)) hb | exact bl_tr (bl_dr (bl0 _)) hb
  replace hA := bl_tr hA hk
  replace hl1 := hl1.below hk
  replace hl2 := hl2.below hk
  replace hn1 := hn1.below hk
  replace p0 := cell_later hk p0
  replace p1 := cell_later hk p1
  replace p2 := cell_later hk p2
  replace c0 := cell_later hk c0
  replace c1 := cell_later hk c1
  replace m0 := cell_later hk m0
  replace m1 := cell_later hk m1
  clear hb hk
  have zp0 := blk_lt p0
  have zp1 := blk_lt p1
  have zp2 := blk_lt p2
  have zc0 := blk_lt c0
  have zc1 := blk_lt c1
  have zm0 := blk_lt m0
  have zm1 := blk_lt m1
  go_wp2_with fail
  refine (H9.out _ _ _ _ _ hl1 hl2).mono ?_
  rintro e w9 ⟨rfl, hb⟩
  have hk : Below w8.heap.size w8 w9 := by first | exact hb | exact bl_tr (bl_al (bl0 _) _) hb | exact bl_tr (bl_dr (bl_al (bl0 _) _)) hb | exact bl_tr (bl_al (bl_al (bl0 _) _) _) hb | exact bl_tr (bl_dr (bl_al (bl_al (bl0 _) _) _)) hb | exact bl_tr (bl_al (bl_al (bl_al (bl0 _) _) _) _) hb | exact bl_tr (bl_dr (bl_al (bl_al (bl_al (bl0 _) _) _) _)) hb | exact bl_tr (bl_al (bl_al (bl_al (bl_al (bl0 _) _) _) _) _) hb | exact bl_tr (bl_dr (bl_al (bl_al (bl_al (bl_al (bl0 _) _) _) _) _)) hb | exact bl_tr (bl_al (bl_al (bl_al (bl_al (bl_al (bl0 _) _) _) _) _) _) hb | exact bl_tr (bl_dr (bl_al (bl_al (bl_al (bl_al (bl_al (bl0 _) _) _) _) _) _)) hb | exact bl_tr (bl_al (bl_al (bl_al (bl_al (bl_al (bl_al (bl0 _) _) _) _) _) _) _) hb | exact bl_tr (bl_dr (bl_al (bl_al (bl_al (bl_al (bl_al (bl_al (bl0 _) _) _) _) _) _) _)) hb | exact bl_tr (bl_dr (bl0 _)) hb
  replace hA := bl_tr hA hk
  replace hl1 := hl1.below hk
  replace hn1 := hn1.below hk
  replace hn2 := hn2.below hk
  replace p0 := cell_later hk p0
  replace p1 := cell_later hk p1
  replace p2 := cell_later hk p2
  replace c0 := cell_later hk c0
  replace c1 := cell_later hk c1
  replace m0 := cell_later hk m0
  replace m1 := cell_later hk m1
  clear hb hk
  have zp0 := blk_lt p0
  have zp1 := blk_lt p1
  have zp2 := blk_lt p2
  have zc0 := blk_lt c0
  have zc1 := blk_lt c1
  have zm0 := blk_lt m0
  have zm1 := blk_lt m1
  go_wp2_with fail
  refine (HT1.out _ _ _ hn1).mono ?_
  rintro e w10 ⟨rfl, rfl⟩
  go_wp2_with fail
  refine (HT2.out _ _ _ hn2).mono ?_
  rintro e w10 ⟨rfl, rfl⟩
  obtain ⟨tb, htb⟩ : ∃ tb, decide (d = 0 ∨ d = 3) = tb := ⟨_, rfl⟩
  have HTB := Lib.hid htb
  clear htb
  go_upto_region 19 with fail
  go_cut [177] from 172 to 176 (fun s wx => s = .bool tb ∧ wx = w9.alloc (.cells #[.int .i64 c.1, .int .i64 c.2, .int .i64 n.1, .int .i64 n.2] 60))
  case first =>
    by_cases e0 : d = 0
    · have b0 : (d == 0) = true := by rw [beq_iff_eq]; exact e0
      have e : tb = true := by rw [← HTB.out]; exact decide_eq_true (.inl e0)
      subst e
      go_wp2
      go_meet
      exact ⟨rfl, rfl⟩
    · have b0 : (d == 0) = false := by rw [beq_eq_false_iff_ne]; exact e0
      by_cases e3 : d = 3
      · have b3 : (d == 3) = true := by rw [beq_iff_eq]; exact e3
        have e : tb = true := by rw [← HTB.out]; exact decide_eq_true (.inr e3)
        subst e
        go_wp2
        go_meet
        exact ⟨rfl, rfl⟩
      · have b3 : (d == 3) = false := by rw [beq_eq_false_iff_ne]; exact e3
        have e : tb = false := by rw [← HTB.out]; exact decide_eq_false (by omega)
        subst e
        go_wp2
        go_meet
        exact ⟨rfl, rfl⟩
  case rest =>
  obtain ⟨rfl, rfl⟩ := hcut
  go_upto_if 177 with (fail)
  go_cut [20] from 178 to 180 (fun s wx => s = .pointer (some ⟨w9.heap.size, 0, none⟩) ∧ (wx.cell? ⟨w9.heap.size, 0, none⟩ = some (.int .i64 pr.1.1) ∧ wx.cell? ⟨w9.heap.size, 1, none⟩ = some (.int .i64 pr.1.2)) ∧ (wx.cell? ⟨w9.heap.size, 2, none⟩ = some (.int .i64 pr.2.1) ∧ wx.cell? ⟨w9.heap.size, 3, none⟩ = some (.int .i64 pr.2.2)) ∧ Below w9.heap.size w9 wx)
  case first =>
    have zc := blk_lt c0
    have zm := blk_lt m0
    cases tb
    · have hp : pr = (c, n) := by rw [← HPRV.out, if_neg (of_decide_eq_false HTB.out)]
      subst hp
      go_wp2
      go_meet
      exact ⟨rfl, ⟨by simp [go_sem], by simp [go_sem]⟩, ⟨by simp [go_sem], by simp [go_sem]⟩, bl_al (bl0 _) _⟩
    · have hp : pr = (n, c) := by rw [← HPRV.out, if_pos (of_decide_eq_true HTB.out)]
      subst hp
      go_wp2
      go_meet
      exact ⟨rfl, ⟨by simp [go_sem], by simp [go_sem]⟩, ⟨by simp [go_sem], by simp [go_sem]⟩, bl_al (bl0 _) _⟩
  case rest =>
  obtain ⟨rfl, ⟨r0, r1⟩, ⟨r2, r3⟩, hb⟩ := hcut
  replace hA := bl_tr hA hb
  replace p0 := cell_later hb p0; replace p1 := cell_later hb p1; replace p2 := cell_later hb p2
  replace hl1 := hl1.below hb
  have HA := Lib.hid hA; have P0 := Lib.hid p0; have P1 := Lib.hid p1; have P2 := Lib.hid p2
  have R0 := Lib.hid r0; have R1 := Lib.hid r1; have R2 := Lib.hid r2; have R3 := Lib.hid r3
  have HROW := Lib.hid hl1
  have hN : ((L.length : Nat) : Int) = (N : Int) := by rw [HLL.out]
  rw [HLL.out]
  clear hb hA p0 p1 p2 c0 c1 m0 m1 r0 r1 r2 r3 hl1 hl2 hn1 hn2 HT1 HT2 H0 HST HOA HOB H5 H6 H7 H8 H9 hN hab2 h1 h2 h3 h4 h5 h6
  go_wp2_with fail
  go_loopw [21, 22, 23, 24, 25, 26, 27, 28] (fun th i _ _ _ _ _ _ wr => ∃ k : Nat, k ≤ N ∧ i = .int .i64 k ∧ th = .int .i64 (if k0 < k then 1 else 0) ∧ Below wc.heap.size wc wr) (fun _ i _ _ _ _ _ _ _ => N - (intOf i).toNat)
  case atStart => exact ⟨0, Nat.zero_le _, rfl, by simp, bl0 _⟩
  case round =>
    obtain ⟨k, hk, rfl, rfl, hB⟩ := hrel
    have hk0 : (0 : Int) ≤ (k : Int) := by omega
    by_cases hlt : k < N
    case neg =>
      obtain rfl : k = N := by omega
      rw [if_pos s2]
      have hA := bl_tr HA.out hB
      have hge : ¬ (k : Int) < (k : Int) := by omega
      go_wp2_with fail
      refine (awake11 _ (hs.below (by first | exact hA | exact (bl_al hA _) | exact (bl_dr (bl_al hA _)) | exact (bl_al (bl_al hA _) _) | exact (bl_dr (bl_al (bl_al hA _) _)) | exact (bl_al (bl_al (bl_al hA _) _) _) | exact (bl_dr (bl_al (bl_al (bl_al hA _) _) _)) | exact (bl_al (bl_al (bl_al (bl_al hA _) _) _) _) | exact (bl_dr (bl_al (bl_al (bl_al (bl_al hA _) _) _) _)) | exact (bl_al (bl_al (bl_al (bl_al (bl_al hA _) _) _) _) _) | exact (bl_dr (bl_al (bl_al (bl_al (bl_al (bl_al hA _) _) _) _) _)) | exact (bl_al (bl_al (bl_al (bl_al (bl_al (bl_al hA _) _) _) _) _) _) | exact (bl_dr (bl_al (bl_al (bl_al (bl_al (bl_al (bl_al hA _) _) _) _) _) _)) | exact (bl_dr hA)))).mono ?_
      rintro e w10 ⟨rfl, hb⟩
      have hk : Below wr.heap.size wr w10 := by first | exact hb | exact bl_tr (bl_al (bl0 _) _) hb | exact bl_tr (bl_dr (bl_al (bl0 _) _)) hb | exact bl_tr (bl_al (bl_al (bl0 _) _) _) hb | exact bl_tr (bl_dr (bl_al (bl_al (bl0 _) _) _)) hb | exact bl_tr (bl_al (bl_al (bl_al (bl0 _) _) _) _) hb | exact bl_tr (bl_dr (bl_al (bl_al (bl_al (bl0 _) _) _) _)) hb | exact bl_tr (bl_al (bl_al (bl_al (bl_al (bl0 _) _) _) _) _) hb | exact bl_tr (bl_dr (bl_al (bl_al (bl_al (bl_al (bl0 _) _) _) _) _)) hb | exact bl_tr (bl_al (bl_al (bl_al (bl_al (bl_al (bl0 _) _) _) _) _) _) hb | exact bl_tr (bl_dr (bl_al (bl_al (bl_al (bl_al (bl_al (bl0 _) _) _) _) _) _)) hb | exact bl_tr (bl_al (bl_al (bl_al (bl_al (bl_al (bl_al (bl0 _) _) _) _) _) _) _) hb | exact bl_tr (bl_dr (bl_al (bl_al (bl_al (bl_al (bl_al (bl_al (bl0 _) _) _) _) _) _) _)) hb | exact bl_tr (bl_dr (bl0 _)) hb
      replace hA := bl_tr hA hk
      clear hb hk
      go_wp2
      go_ret
      exact ⟨rfl, hA⟩
    case pos =>
      have hlt2 : (k : Int) < (N : Int) := by omega
      have hp0 := cell_later hB P0.out; have hp1 := cell_later hB P1.out; have hp2 := cell_later hB P2.out
      have e0 := cell_later hB R0.out; have e1 := cell_later hB R1.out; have e2 := cell_later hB R2.out; have e3 := cell_later hB R3.out
      obtain ⟨gb, go, hla, ⟨q0, q1⟩, q2, q3⟩ := (HROW.out.below hB).cell (k := k) (by rw [HLL.out]; exact hlt)
      subst hla
      rw [HAT.out] at q0 q1 q2 q3
      have zq := blk_lt q0
      have ze := blk_lt e0
      have zp := blk_lt hp0
      have hts := there_succ k0 k
      have hpk := HPR.out k
      obtain ⟨oF, oG⟩ := HOK.out k hlt
      have HOF := Lib.hid oF; have HOG := Lib.hid oG
      have hs1 := HSK.out k hlt 1 (by omega) (by omega)
      have hs2 := HSK.out k hlt 2 (by omega) (by omega)
      have hd3 := HDD.out k hlt
      obtain ⟨t1, ht1⟩ : ∃ t1, decide ((stepI (F k).1 1).1 = (F k).2.1 ∧ (stepI (F k).1 1).2 = (F k).2.2) = t1 := ⟨_, rfl⟩
      obtain ⟨t2, ht2⟩ : ∃ t2, decide ((stepI (F k).1 2).1 = (F k).2.1 ∧ (stepI (F k).1 2).2 = (F k).2.2) = t2 := ⟨_, rfl⟩
      have ht12 : (t1 || t2) = true := by
        rcases HSD.out with h | h
        · rw [h] at hd3
          rw [← ht1, decide_eq_true (show (stepI (F k).1 1).1 = (F k).2.1 ∧ (stepI (F k).1 1).2 = (F k).2.2 by rw [hd3]; exact ⟨rfl, rfl⟩)]
          rfl
        · rw [h] at hd3
          rw [← ht2, decide_eq_true (show (stepI (F k).1 2).1 = (F k).2.1 ∧ (stepI (F k).1 2).2 = (F k).2.2 by rw [hd3]; exact ⟨rfl, rfl⟩), Bool.or_true]
      have heq1 := fun w => eql_cel (stepI (F k).1 1).1 (stepI (F k).1 1).2 (F k).2.1 (F k).2.2 w
      have heq2 := fun w => eql_cel (stepI (F k).1 2).1 (stepI (F k).1 2).2 (F k).2.1 (F k).2.2 w
      rw [ht1] at heq1
      rw [ht2] at heq2
      have heq := fun w => eql_pp (F k).1.1 (F k).1.2 (F k).2.1 (F k).2.2 pr.1.1 pr.1.2 pr.2.1 pr.2.2 w
      obtain ⟨t, ht⟩ : ∃ t, decide ((F k).1.1 = pr.1.1 ∧ (F k).1.2 = pr.1.2 ∧ (F k).2.1 = pr.2.1 ∧ (F k).2.2 = pr.2.2) = t := ⟨_, rfl⟩
      have hti : t = true ↔ k = k0 := by
        rw [← ht, ← hpk]
        exact sameQ_iff (a := F k) (b := pr)
      rw [ht] at heq
      obtain ⟨u1, hu1⟩ : ∃ u, stepI (F k).1 1 = u := ⟨_, rfl⟩
      obtain ⟨u2, hu2⟩ : ∃ u, stepI (F k).1 2 = u := ⟨_, rfl⟩
      rw [hu1] at hs1 heq1
      rw [hu2] at hs2 heq2
      have HS1 := Lib.hid hs1; have HS2 := Lib.hid hs2
      have HEQ1 := Lib.hid heq1; have HEQ2 := Lib.hid heq2; have HEQ := Lib.hid heq
      obtain ⟨th, hth⟩ : ∃ th : Int, (if k0 < k then (1 : Int) else 0) = th := ⟨_, rfl⟩
      have hth2 : (if k0 < k + 1 then (1 : Int) else 0) = if t = true then th + 1 else th := by
        rw [hts, hth]
        by_cases e : k = k0
        · rw [if_pos e, if_pos (hti.2 e)]
        · rw [if_neg e, if_neg (fun h => e (hti.1 h))]; omega
      rw [hth]
      have hthb : 0 ≤ th ∧ th ≤ 1 := by rw [← hth]; split <;> omega
      obtain ⟨hthb1, hthb2⟩ := hthb
      have HTH := Lib.hid hth2
      have HT12 := Lib.hid ht12
      clear hts hpk oF oG hs1 hs2 hd3 ht1 ht2 ht12 heq1 heq2 heq ht hti hu1 hu2 hth hth2
      have HQ := Lib.hid (show wr.cell? ⟨gb, go + k * 4, none⟩ = some (.int .i64 (F k).1.1) ∧ wr.cell? ⟨gb, go + k * 4 + 1, none⟩ = some (.int .i64 (F k).1.2) from ⟨q0, q1⟩)
      obtain ⟨z, hz⟩ : ∃ z, F k = z := ⟨_, rfl⟩
      have HZ := Lib.hid hz
      rw [hz] at q0 q1 q2 q3 HOF HOG HS1 HS2 HEQ1 HEQ2 HEQ
      clear hz HQ
      have heq := HEQ.out
      go_upto_region 25 with fail
      go_cut [192] from 187 to 191 (fun s wx => s = .bool t ∧ ∃ m, wx = wr.drewN m)
      case first =>
        go_quiet (fail)
        go_wp2
        go_meet
        exact ⟨rfl, _, rfl⟩
      case rest =>
      obtain ⟨rfl, m, rfl⟩ := hcut
      clear heq
      have hk2 : Below wr.heap.size wr (wr.drewN m) := bl_drn wr m
      obtain ⟨W2, hW2⟩ : ∃ W2, wr.drewN m = W2 := ⟨_, rfl⟩
      rw [hW2] at hk2 ⊢
      clear hW2
      replace hB := bl_tr hB hk2
      replace q0 := cell_later hk2 q0; replace q1 := cell_later hk2 q1; replace q2 := cell_later hk2 q2; replace q3 := cell_later hk2 q3
      replace hp0 := cell_later hk2 hp0; replace hp1 := cell_later hk2 hp1; replace hp2 := cell_later hk2 hp2
      clear hk2 e0 e1 e2 e3 ze
      replace zq := blk_lt q0
      replace zp := blk_lt hp0
      go_upto_if 192 with (fail)
      go_cut [21] from 193 to 194 (fun s wx => s = .int .i64 (if t = true then th + 1 else th) ∧ wx = W2)
      case first =>
        cases t
        · go_wp2
          go_meet
          exact ⟨rfl, rfl⟩
        · go_wp2
          go_meet
          exact ⟨rfl, rfl⟩
      case rest =>
      obtain ⟨rfl, hw⟩ := hcut
      rw [hw]
      clear hw
      rw [← HTH.out]
      obtain ⟨T2, hT2⟩ : ∃ T2 : Int, (if k0 < k + 1 then (1 : Int) else 0) = T2 := ⟨_, rfl⟩
      rw [hT2]
      have HT2' := Lib.hid hT2
      clear hT2
      go_upto_region 27 with fail
      have hBB := bl_dr (bl0 W2)
      go_cut [23, 24] from 195 to 204 (fun s1 s2 wx => s1 = .int .i64 f ∧ s2 = .int .i64 0 ∧ Below W2.heap.size W2 wx)
      case first =>
        go_region_held3 (fun w' => (w'.cell? ⟨w.heap.size, 0, none⟩ = some (.int .i64 W) ∧ w'.cell? ⟨w.heap.size, 1, none⟩ = some (.int .i64 H) ∧ w'.cell? ⟨w.heap.size, 2, none⟩ = some (.int .i64 S)) ∧ w'.cell? ⟨gb, go + k * 4, none⟩ = some (.int .i64 z.1.1) ∧ w'.cell? ⟨gb, go + k * 4 + 1, none⟩ = some (.int .i64 z.1.2))
          (exact ⟨⟨cell_later hBB hp0, cell_later hBB hp1, cell_later hBB hp2⟩, cell_later hBB q0, cell_later hBB q1⟩)
          ((go_at_call 10; (with_reducible refine (HOF.out _).mono ?_); rintro e w9' ⟨rfl, hb9⟩; replace hBB := bl_tr hBB hb9))
        all_goals
          go_wp2_with fail
          go_meet
          exact ⟨rfl, rfl, hBB⟩
      case rest =>
      obtain ⟨rfl, rfl, hb⟩ := hcut
      replace hB := bl_tr hB hb
      replace q0 := cell_later hb q0; replace q1 := cell_later hb q1; replace q2 := cell_later hb q2; replace q3 := cell_later hb q3
      replace hp0 := cell_later hb hp0; replace hp1 := cell_later hb hp1; replace hp2 := cell_later hb hp2
      clear hb hBB
      replace zq := blk_lt q0
      replace zp := blk_lt hp0
      go_upto_region 28 with fail
      have hBB := bl_dr (bl0 wc)
      go_cut [25, 26] from 205 to 214 (fun s1 s2 wx => s1 = .int .i64 g ∧ s2 = .int .i64 0 ∧ Below wc.heap.size wc wx)
      case first =>
        go_region_held3 (fun w' => (w'.cell? ⟨w.heap.size, 0, none⟩ = some (.int .i64 W) ∧ w'.cell? ⟨w.heap.size, 1, none⟩ = some (.int .i64 H) ∧ w'.cell? ⟨w.heap.size, 2, none⟩ = some (.int .i64 S)) ∧ w'.cell? ⟨gb, go + k * 4 + 2, none⟩ = some (.int .i64 z.2.1) ∧ w'.cell? ⟨gb, go + k * 4 + 3, none⟩ = some (.int .i64 z.2.2))
          (exact ⟨⟨cell_later hBB hp0, cell_later hBB hp1, cell_later hBB hp2⟩, cell_later hBB q2, cell_later hBB q3⟩)
          ((go_at_call 10; (with_reducible refine (HOG.out _).mono ?_); rintro e w9' ⟨rfl, hb9⟩; replace hBB := bl_tr hBB hb9))
        all_goals
          go_wp2_with fail
          go_meet
          exact ⟨rfl, rfl, hBB⟩
      case rest =>
      obtain ⟨rfl, rfl, hb⟩ := hcut
      replace hB := bl_tr hB hb
      replace q0 := cell_later hb q0; replace q1 := cell_later hb q1; replace q2 := cell_later hb q2; replace q3 := cell_later hb q3
      clear hb hBB hp0 hp1 hp2 zp
      replace zq := blk_lt q0
      have heq1 := HEQ1.out
      go_upto_region 29 with fail
      have hBB := bl_dr (bl0 wc)
      go_cut [27] from 215 to 226 (fun s1 wx => s1 = .bool t1 ∧ Below wc.heap.size wc wx)
      case first =>
        go_region_held3 (fun w' => (w'.cell? ⟨gb, go + k * 4, none⟩ = some (.int .i64 z.1.1) ∧ w'.cell? ⟨gb, go + k * 4 + 1, none⟩ = some (.int .i64 z.1.2)) ∧ w'.cell? ⟨gb, go + k * 4 + 2, none⟩ = some (.int .i64 z.2.1) ∧ w'.cell? ⟨gb, go + k * 4 + 3, none⟩ = some (.int .i64 z.2.2))
          (exact ⟨⟨cell_later hBB q0, cell_later hBB q1⟩, cell_later hBB q2, cell_later hBB q3⟩)
          ((go_at_call 25; (with_reducible refine (HS1.out _).mono ?_); rintro e w9' ⟨rfl, hb9⟩; replace hBB := bl_tr hBB hb9))
        all_goals
          go_wp2_with fail
          go_meet
          exact ⟨rfl, hBB⟩
      case rest =>
      obtain ⟨rfl, hb⟩ := hcut
      replace hB := bl_tr hB hb
      replace q0 := cell_later hb q0; replace q1 := cell_later hb q1; replace q2 := cell_later hb q2; replace q3 := cell_later hb q3
      clear hb hBB heq1
      replace zq := blk_lt q0
      have heq2 := HEQ2.out
      go_upto_region 30 with fail
      have hBB := bl_dr (bl0 wc)
      go_cut [28] from 227 to 238 (fun s1 wx => s1 = .bool t2 ∧ Below wc.heap.size wc wx)
      case first =>
        go_region_held3 (fun w' => (w'.cell? ⟨gb, go + k * 4, none⟩ = some (.int .i64 z.1.1) ∧ w'.cell? ⟨gb, go + k * 4 + 1, none⟩ = some (.int .i64 z.1.2)) ∧ w'.cell? ⟨gb, go + k * 4 + 2, none⟩ = some (.int .i64 z.2.1) ∧ w'.cell? ⟨gb, go + k * 4 + 3, none⟩ = some (.int .i64 z.2.2))
          (exact ⟨⟨cell_later hBB q0, cell_later hBB q1⟩, cell_later hBB q2, cell_later hBB q3⟩)
          ((go_at_call 25; (with_reducible refine (HS2.out _).mono ?_); rintro e w9' ⟨rfl, hb9⟩; replace hBB := bl_tr hBB hb9))
        all_goals
          go_wp2_with fail
          go_meet
          exact ⟨rfl, hBB⟩
      case rest =>
      obtain ⟨rfl, hb⟩ := hcut
      replace hB := bl_tr hB hb
      replace q0 := cell_later hb q0; replace q1 := cell_later hb q1; replace q2 := cell_later hb q2; replace q3 := cell_later hb q3
      clear hb hBB heq2
      replace zq := blk_lt q0
      go_upto_region 31 with fail
      go_cut [266] from 239 to 265 (fun s1 wx => s1 = .bool false ∧ Below wc.heap.size wc wx)
      case first =>
        have h12 := HT12.out
        have dgf : decide (g < f) = false := decide_eq_false (by omega)
        cases t1 <;> cases t2
        · cases h12
        all_goals
          go_wp2
          go_meet
          exact ⟨rfl, bl0 _⟩
      case rest =>
      obtain ⟨rfl, hb⟩ := hcut
      replace hB := bl_tr hB hb
      replace q0 := cell_later hb q0; replace q1 := cell_later hb q1
      clear hb q2 q3
      replace zq := blk_lt q0
      go_upto_region 33 with fail
      go_cut [316] from 267 to 315 (fun s1 wx => s1 = .bool false ∧ Below wc.heap.size wc wx)
      case first =>
        by_cases hk1 : 0 < k
        · obtain ⟨gb', go', hh, ⟨v0, v1⟩, _, _⟩ := (HROW.out.below hB).cell (k := k - 1) (by rw [HLL.out]; omega)
          cases hh
          rw [HAT.out] at v0 v1
          obtain ⟨o1, o2⟩ := HRS.out (k - 1)
          rw [show k - 1 + 1 = k by omega, HZ.out] at o1 o2
          obtain ⟨v, hv⟩ : ∃ v, F (k - 1) = v := ⟨_, rfl⟩
          rw [hv] at v0 v1 o1 o2
          have dk : decide ((0 : Int) < (k : Int)) = true := decide_eq_true (by omega)
          have dk2 : decide (0 < k) = true := decide_eq_true hk1
          have kw : IntKind.i64.wrap ((k : Int) - 1) = (k : Int) - 1 := IntWalk.i64_in _ (by omega)
          have kw0 : (0 : Int) ≤ (k : Int) - 1 := by omega
          have kw1 : (1 : Int) ≤ (k : Int) := by omega
          have kw2 : (k : Int) - 1 < (N : Int) := by omega
          have dy : decide (z.1.2 < v.1.2) = false := decide_eq_false (by omega)
          by_cases hy : z.1.2 = v.1.2
          · have by1 : (z.1.2 == v.1.2) = true := by rw [beq_iff_eq]; exact hy
            have dx : decide (z.1.1 ≤ v.1.1) = false := decide_eq_false (by have := o2 hy; omega)
            clear o1 o2 hv hy
            go_quiet (fail)
            go_wp2
            go_meet
            exact ⟨rfl, bl_drn _ _⟩
          · have by1 : (z.1.2 == v.1.2) = false := by rw [beq_eq_false_iff_ne]; exact hy
            clear o1 o2 hv hy
            go_quiet (fail)
            go_wp2
            go_meet
            exact ⟨rfl, bl_drn _ _⟩
        · have dk : decide ((0 : Int) < (k : Int)) = false := decide_eq_false (by omega)
          have dk2 : decide (0 < k) = false := decide_eq_false hk1
          go_quiet (fail)
          go_wp2
          go_meet
          exact ⟨rfl, bl_drn _ _⟩
      case rest =>
      obtain ⟨rfl, hb⟩ := hcut
      replace hB := bl_tr hB hb
      clear hb q0 q1 zq
      go_wp2
      go_roundw
      case rel => exact ⟨k + 1, by omega, by go_num, by rw [HT2'.out], hB⟩
      case measure => simp [intOf]; omega
end Go.Proofs.YtdajddcladapaaaDoor
