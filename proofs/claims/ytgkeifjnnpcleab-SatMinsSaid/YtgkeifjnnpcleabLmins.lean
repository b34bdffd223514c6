/- SatMins: the law's walk. -/
import Derived.Test.YtgkeifjnnpcleabUq
namespace Go.Proofs.Ytgkeifjnnpcleab
open Go.RowKit

/-- The three rows, and where they lie. -/
def Held3 (B : World) (M : Nat) (a0 a1 a2 : Option Addr) (c0 c1 c2 : Nat) (xs ys zs : List Int) (W : World) : Prop :=
  Below B.heap.size B W ∧ W.cell? ⟨M, 0, none⟩ = some (.slice a0 xs.length c0) ∧ W.cell? ⟨M, 1, none⟩ = some (.slice a1 ys.length c1) ∧ W.cell? ⟨M, 2, none⟩ = some (.slice a2 zs.length c2) ∧
    RowU W a0 xs ∧ RowU W a1 ys ∧ RowU W a2 zs
theorem Held3.below {B W W' : World} {M : Nat} {a0 a1 a2 : Option Addr} {c0 c1 c2 : Nat} {xs ys zs : List Int} (h : Held3 B M a0 a1 a2 c0 c1 c2 xs ys zs W) (hb : Below W.heap.size W W') : Held3 B M a0 a1 a2 c0 c1 c2 xs ys zs W' := by
  obtain ⟨h0, h1, h2, h3, h4, h5, h6⟩ := h
  exact ⟨bl_tr h0 hb, cell_later hb h1, cell_later hb h2, cell_later hb h3, h4.below hb, h5.below hb, h6.below hb⟩

theorem Held3.rx {B W : World} {M : Nat} {a0 a1 a2 : Option Addr} {c0 c1 c2 : Nat} {xs ys zs : List Int} (h : Held3 B M a0 a1 a2 c0 c1 c2 xs ys zs W) : RowU W a0 xs := h.2.2.2.2.1
theorem Held3.ry {B W : World} {M : Nat} {a0 a1 a2 : Option Addr} {c0 c1 c2 : Nat} {xs ys zs : List Int} (h : Held3 B M a0 a1 a2 c0 c1 c2 xs ys zs W) : RowU W a1 ys := h.2.2.2.2.2.1
theorem Held3.rz {B W : World} {M : Nat} {a0 a1 a2 : Option Addr} {c0 c1 c2 : Nat} {xs ys zs : List Int} (h : Held3 B M a0 a1 a2 c0 c1 c2 xs ys zs W) : RowU W a2 zs := h.2.2.2.2.2.2
theorem RowU.get {W : World} {a : Option Addr} {zs : List Int} (h : RowU W a zs) {k : Nat} {z : Int} (hz : zs[k]? = some z) : ∃ b o, a = some ⟨b, o, none⟩ ∧ W.cell? ⟨b, o + k, none⟩ = some (.int .u64 z) ∧ (k : Int) < (zs.length : Int) := by
  have hk := (List.getElem?_eq_some_iff.1 hz).1
  rcases h with rfl | ⟨b, o, h1, h2⟩
  · simp at hk
  · exact ⟨b, o, h1, h2 k z hz, by omega⟩
theorem minC_one (x y : Int) : minC x y = x ∨ minC x y = y := by unfold minC; split <;> simp
set_option maxRecDepth 100000 in
set_option maxHeartbeats 8000000 in
theorem mins_walk (a0 a1 a2 : Option Addr) (d0 d1 d2 : Nat) (xs ys zs : List Int) (w : World) (rx : RowU w a0 xs) (ry : RowU w a1 ys) (rz : RowU w a2 zs) (ux : AllU xs) (uy : AllU ys) :
    Calls Try.prog 8 #[.agg #[.slice a0 xs.length d0, .slice a1 ys.length d1, .slice a2 zs.length d2]] w fun e w' => e = .returned (.bool true) ∧ Below w.heap.size w w' := by
  obtain ⟨i0, hi, hz0, hz1, hz2⟩ := info_parts Try.infoU64
  have hA := bl_al (bl0 w) (.cells #[.slice a0 xs.length d0, .slice a1 ys.length d1, .slice a2 zs.length d2] 44)
  have h3 : Held3 w w.heap.size a0 a1 a2 d0 d1 d2 xs ys zs (w.alloc (.cells #[.slice a0 xs.length d0, .slice a1 ys.length d1, .slice a2 zs.length d2] 44)) :=
    ⟨hA, by simp [go_sem], by simp [go_sem], by simp [go_sem], rx.below hA, ry.below hA, rz.below hA⟩
  obtain ⟨w1, hw1⟩ : ∃ w1, w.alloc (.cells #[.slice a0 xs.length d0, .slice a1 ys.length d1, .slice a2 zs.length d2] 44) = w1 := ⟨_, rfl⟩
  rw [hw1] at h3
  have H1 := Lib.hid hw1
  have H := Lib.hid h3
  clear hw1 hA h3 rx ry rz
  obtain ⟨_, c0, c1, c2, _⟩ := H.out
  go_enter Try.func8, Try.ntmps8
  by_cases l0 : (60 : Int) < (xs.length : Int)
  · skip
    go_wp2_with fail
    rw [H1.out]
    refine (awake_any _).mono ?_
    rintro e w9 ⟨rfl, hb⟩
    replace H := Lib.hid (H.out.below hb)
    clear hb c0 c1 c2
    go_wp2
    go_ret
    exact ⟨rfl, H.out.1⟩
  · by_cases l1 : (60 : Int) < (ys.length : Int)
    · skip
      go_wp2_with fail
      rw [H1.out]
      refine (awake_any _).mono ?_
      rintro e w9 ⟨rfl, hb⟩
      replace H := Lib.hid (H.out.below hb)
      clear hb c0 c1 c2
      go_wp2
      go_ret
      exact ⟨rfl, H.out.1⟩
    · by_cases l2 : (60 : Int) < (zs.length : Int)
      · skip
        go_wp2_with fail
        rw [H1.out]
        refine (awake_any _).mono ?_
        rintro e w9 ⟨rfl, hb⟩
        replace H := Lib.hid (H.out.below hb)
        clear hb c0 c1 c2
        go_wp2
        go_ret
        exact ⟨rfl, H.out.1⟩
      · have m0 : xs.length ≤ 1048576 := by omega
        have m1 : ys.length ≤ 1048576 := by omega
        go_wp2_with fail
        rw [H1.out]
        clear l0 l1 l2
        by_cases he : xs.length = ys.length
        · have HE := Lib.hid he
          have e1 : ((xs.length : Int) != (ys.length : Int)) = false := by rw [bne_eq_false_iff_eq]; omega
          have e2 : ((xs.length : Int) == (ys.length : Int)) = true := by rw [beq_iff_eq]; omega
          have HJ1 := Lib.hid (fun w => join_yes a0 a1 d0 d1 xs ys w m0 he)
          have HJ2 := Lib.hid (fun w => join_yes a1 a0 d1 d0 ys xs w m1 he.symm)
          have HJ3 := Lib.hid (fun w => join_yes a0 a0 d0 d0 xs xs w m0 rfl)
          have hF := mins_facts he ux uy
          have hAl : (joinC xs ys).length = xs.length := by rw [joinC_len]; omega
          have hAu := joinC_all ux uy
          rw [joinC_comm ys xs] at HJ2
          rw [joinC_self xs] at HJ3
          have HAS := Lib.hid (joinC_assoc xs ys zs)
          obtain ⟨A, hAe⟩ : ∃ A, joinC xs ys = A := ⟨_, rfl⟩
          rw [hAe] at HJ1 HJ2 hF hAl hAu HAS
          have HAE := Lib.hid hAe
          have HF := Lib.hid hF
          have HAL := Lib.hid hAl
          have HAU := Lib.hid hAu
          have HX := Lib.hid ux
          have HY := Lib.hid uy
          clear hAe hF hAl hAu he ux uy
          refine ((HJ1.out _) H.out.rx H.out.ry).mono ?_
          rintro e w2 ⟨z1, rfl, ma, hb⟩
          have MA := Lib.hid ma
          replace H := Lib.hid (H.out.below hb)
          clear c0 c1 c2
          obtain ⟨_, c0, c1, c2, _⟩ := H.out
          clear hb ma
          go_wp2_with fail
          refine ((HJ2.out _) H.out.ry H.out.rx).mono ?_
          rintro e w3 ⟨z2, rfl, mb, hb⟩
          have MB := Lib.hid mb
          replace MA := Lib.hid (MA.out.below hb)
          replace H := Lib.hid (H.out.below hb)
          clear c0 c1 c2
          obtain ⟨_, c0, c1, c2, _⟩ := H.out
          clear hb mb
          go_wp2_with fail
          refine ((HJ3.out _) H.out.rx H.out.rx).mono ?_
          rintro e w4 ⟨z3, rfl, ms, hb⟩
          have MS := Lib.hid ms
          replace MA := Lib.hid (MA.out.below hb)
          replace MB := Lib.hid (MB.out.below hb)
          replace H := Lib.hid (H.out.below hb)
          clear c0 c1 c2
          obtain ⟨_, c0, c1, c2, _⟩ := H.out
          clear hb ms HJ1 HJ2 HJ3
          have hl60 : (xs.length : Int) ≤ 1048576 := by omega
          have HO := Lib.hid (own_empty (w := w4) (B := w4.heap.size) 23 (Nat.le_refl _))
          have HB0 := Lib.hid (bl_al (bl0 w4) (.cells #[] 23))
          go_wp2
          go_loopw [9, 10] (fun v i wr => ∃ k : Nat, k ≤ xs.length ∧ i = .int .i64 k ∧ wr.ownsRow w4.heap.size 23 1 v k (cellsU (List.replicate k 18446744073709551615)) ∧ Below w4.heap.size w4 wr) (fun _ i _ => xs.length - (intOf i).toNat)
          case atStart => exact ⟨0, Nat.zero_le _, rfl, HO.out, HB0.out⟩
          case round =>
            clear HO HB0
            obtain ⟨k, hk, rfl, hown, hB⟩ := hrel
            replace c0 := cell_later hB c0
            by_cases hlt : k < xs.length
            · have hlt2 : (k : Int) < (xs.length : Int) := by omega
              go_wp2_with (at_builtin; refine wpList_append_own _ rfl _ _ 22 rfl w4.heap.size 23 i0 (.int .u64 0) 1 8 Try.underlying22 hi hz0 hz1 hz2 rfl (by decide) _ _ _ rfl (hown.alloc _) ⟨wr.heap.size, 0, none⟩ 1 1 [.int .u64 18446744073709551615] rfl rfl ?c1 ?c2 ?c3 ?c4 ?c5 ?_)
              case c1 => exact cell_one_new _ _ _
              case c2 => intro u hu; simp at hu; rcases hu with rfl; rfl
              case c3 => unfold maxLen; omega
              case c4 => omega
              case c5 => (have := hB.size; first | (simp; omega) | omega)
              intro v' w5 hown' hgrow _
              have hB1 : Below w4.heap.size w4 w5 := (bl_al hB _).grown hgrow (by have := hB.size; simp; omega) (fun j hj => by have := (hown.lt j hj).1; omega)
              rw [← cellsU_snoc, ← List.replicate_succ'] at hown'
              clear hgrow hown hB c0
              go_wp2
              go_roundw
              case rel => exact ⟨k + 1, by omega, by go_num, hown', hB1⟩
              case measure => simp [intOf]; omega
            · have hke : k = xs.length := by omega
              have hrow : wr.ownsRow w4.heap.size 23 1 u9 (List.replicate xs.length (18446744073709551615 : Int)).length (cellsU (List.replicate xs.length 18446744073709551615)) := by rw [List.length_replicate]; rw [hke] at hown; exact hown
              have hge : (xs.length : Int) ≤ (k : Int) := by omega
              obtain ⟨zn, cn, rfl, mn⟩ := rowU_of_own hrow
              clear hke hown hrow
              have hb := hB
              replace MA := Lib.hid (MA.out.below hb)
              replace MB := Lib.hid (MB.out.below hb)
              replace MS := Lib.hid (MS.out.below hb)
              replace H := Lib.hid (H.out.below hb)
              clear c0 c1 c2
              obtain ⟨_, c0, c1, c2, _⟩ := H.out
              clear hb hB
              have h4 := fun w => join_yes zn a0 cn d0 (List.replicate xs.length 18446744073709551615) xs w (by simpa using m0) (by simp)
              rw [joinC_inf HX.out, List.length_replicate] at h4
              have HJ4 := Lib.hid h4
              clear h4
              have MN := Lib.hid mn
              clear mn
              go_wp2_with fail
              with_reducible refine ((HJ4.out _) MN.out H.out.rx).mono ?_
              rintro e w6 ⟨z4, rfl, mw, hb⟩
              have MW := Lib.hid mw
              replace MA := Lib.hid (MA.out.below hb)
              replace MB := Lib.hid (MB.out.below hb)
              replace MS := Lib.hid (MS.out.below hb)
              replace H := Lib.hid (H.out.below hb)
              clear c0 c1 c2
              obtain ⟨_, c0, c1, c2, _⟩ := H.out
              clear hb mw HJ4 MN
              go_wp2_with fail
              with_reducible refine (same_yes z1 z2 _ _ A _ MA.out MB.out (by rw [HAL.out]; exact m0)).mono ?_
              rintro e w7 ⟨rfl, hb⟩
              replace MA := Lib.hid (MA.out.below hb)
              replace MS := Lib.hid (MS.out.below hb)
              replace MW := Lib.hid (MW.out.below hb)
              replace H := Lib.hid (H.out.below hb)
              clear c0 c1 c2
              obtain ⟨_, c0, c1, c2, _⟩ := H.out
              clear hb MB
              go_wp2_with fail
              with_reducible refine (same_yes z3 a0 _ _ xs _ MS.out H.out.rx m0).mono ?_
              rintro e w8 ⟨rfl, hb⟩
              replace MA := Lib.hid (MA.out.below hb)
              replace MW := Lib.hid (MW.out.below hb)
              replace H := Lib.hid (H.out.below hb)
              clear c0 c1 c2
              obtain ⟨_, c0, c1, c2, _⟩ := H.out
              clear hb MS
              go_wp2_with fail
              with_reducible refine (same_yes z4 a0 _ _ xs _ MW.out H.out.rx m0).mono ?_
              rintro e w9 ⟨rfl, hb⟩
              replace MA := Lib.hid (MA.out.below hb)
              replace H := Lib.hid (H.out.below hb)
              clear c0 c1 c2
              obtain ⟨_, c0, c1, c2, _⟩ := H.out
              clear hb MW
              go_wp2_with fail
              with_reducible refine (least_any z1 _ A _ MA.out HAU.out (by rw [HAL.out]; exact m0)).mono ?_
              rintro e w' ⟨rfl, rfl⟩
              go_wp2_with fail
              with_reducible refine (least_any a0 _ xs _ H.out.rx HX.out m0).mono ?_
              rintro e w' ⟨rfl, rfl⟩
              go_wp2_with fail
              with_reducible refine (least_any a1 _ ys _ H.out.ry HY.out m1).mono ?_
              rintro e w' ⟨rfl, rfl⟩
              have HF1 := Lib.hid HF.out.1
              have HF2 := Lib.hid HF.out.2
              have HJA := Lib.hid HAE.out
              rw [HF1.out] at HF2
              rw [HF1.out]
              clear HF HF1
              obtain ⟨p, hp⟩ : ∃ p, (leastC A).1 = p := ⟨_, rfl⟩
              obtain ⟨q, hq⟩ : ∃ q, (leastC xs).1 = q := ⟨_, rfl⟩
              obtain ⟨r, hr⟩ : ∃ r, (leastC ys).1 = r := ⟨_, rfl⟩
              rw [hp, hq, hr] at HF2
              rw [hp, hq, hr]
              clear hp hq hr
              cases o1 : (leastC xs).2
              · cases o2 : (leastC ys).2
                · clear o1 o2 HF2
                  go_wp2
                  simp only [List.append_eq, List.cons_append, List.nil_append]
                  go_quiet (fail)
                  obtain ⟨W2, hW2⟩ : ∃ W2, w9.drewN nq = W2 := ⟨_, rfl⟩
                  have hb : Below w9.heap.size w9 W2 := by rw [← hW2]; exact bl_drn w9 nq
                  rw [hW2]
                  clear hW2
                  replace MA := Lib.hid (MA.out.below hb)
                  replace H := Lib.hid (H.out.below hb)
                  clear c0 c1 c2
                  obtain ⟨_, c0, c1, c2, _⟩ := H.out
                  clear hb
                  by_cases hzl : zs.length = xs.length
                  · have g1 : ((zs.length : Int) != (xs.length : Int)) = false := by rw [bne_eq_false_iff_eq]; omega
                    have g2 : ((zs.length : Int) == (xs.length : Int)) = true := by rw [beq_iff_eq]; omega
                    have HZ := Lib.hid hzl
                    clear hzl
                    have HDL := Lib.hid (show (joinC ys zs).length = xs.length by rw [joinC_len]; have := HE.out; have := HZ.out; omega)
                    go_wp2_with fail
                    with_reducible refine (join_yes _ _ _ d2 A zs _ (by rw [HAL.out]; exact m0) (by rw [HAL.out, HZ.out]) MA.out H.out.rz).mono ?_
                    rintro e w10 ⟨y1, rfl, mc, hb⟩
                    have MC := Lib.hid mc
                    replace H := Lib.hid (H.out.below hb)
                    clear c0 c1 c2
                    obtain ⟨_, c0, c1, c2, _⟩ := H.out
                    clear hb mc MA
                    go_wp2_with fail
                    with_reducible refine (join_yes _ _ _ d2 ys zs _ m1 (by rw [HZ.out, HE.out]) H.out.ry H.out.rz).mono ?_
                    rintro e w11 ⟨y2, rfl, md, hb⟩
                    have MD := Lib.hid md
                    replace MC := Lib.hid (MC.out.below hb)
                    replace H := Lib.hid (H.out.below hb)
                    clear c0 c1 c2
                    obtain ⟨_, c0, c1, c2, _⟩ := H.out
                    clear hb md
                    go_wp2_with fail
                    have h5 := join_yes _ y2 d0 (joinC ys zs).length xs (joinC ys zs) _ m0 HDL.out.symm H.out.rx MD.out
                    rw [← HAS.out] at h5
                    with_reducible refine h5.mono ?_
                    clear h5
                    rintro e w12 ⟨y3, rfl, mx, hb⟩
                    have MX := Lib.hid mx
                    replace MC := Lib.hid (MC.out.below hb)
                    replace H := Lib.hid (H.out.below hb)
                    clear c0 c1 c2
                    obtain ⟨_, c0, c1, c2, _⟩ := H.out
                    clear hb mx MD
                    go_wp2_with fail
                    with_reducible refine (same_yes y1 y3 _ _ (joinC A zs) _ MC.out MX.out (by rw [joinC_len, HAL.out]; omega)).mono ?_
                    rintro e w13 ⟨rfl, hb⟩
                    replace H := Lib.hid (H.out.below hb)
                    clear c0 c1 c2
                    obtain ⟨_, c0, c1, c2, _⟩ := H.out
                    clear hb MC MX
                    go_wp2_with fail
                    refine (awake_any _).mono ?_
                    rintro e w9 ⟨rfl, hb⟩
                    replace H := Lib.hid (H.out.below hb)
                    clear hb c0 c1 c2
                    go_wp2
                    go_ret
                    exact ⟨rfl, H.out.1⟩
                  · have g1 : ((zs.length : Int) != (xs.length : Int)) = true := by rw [bne_iff_ne]; omega
                    have g2 : ((zs.length : Int) == (xs.length : Int)) = false := by rw [beq_eq_false_iff_ne]; omega
                    clear hzl
                    go_wp2_with fail
                    refine (awake_any _).mono ?_
                    rintro e w9 ⟨rfl, hb⟩
                    replace H := Lib.hid (H.out.below hb)
                    clear hb c0 c1 c2
                    go_wp2
                    go_ret
                    exact ⟨rfl, H.out.1⟩
                · skip
                  rw [o1, o2] at HF2
                  clear o1 o2
                  obtain ⟨x, y, _, ex, ey, hv, hu⟩ := HF2.out rfl
                  have EA : A[p]? = some (minC x y) := by rw [← HJA.out]; exact joinC_at ex ey
                  obtain ⟨ba, oa, rfl, qa, la⟩ := MA.out.get EA
                  obtain ⟨bx, ox, rfl, qx, lx⟩ := H.out.rx.get ex
                  obtain ⟨bY, oY, rfl, qy, ly⟩ := H.out.ry.get ey
                  have p0 : (0 : Int) ≤ (p : Int) := by omega
                  have dpa : decide (A.length ≤ p) = false := by simp; omega
                  have q0 : (0 : Int) ≤ (q : Int) := by omega
                  have r0 : (0 : Int) ≤ (r : Int) := by omega
                  obtain ⟨u, eu, hle2⟩ := hu rfl
                  obtain ⟨bY', oY', hay, qu, lu⟩ := H.out.ry.get eu
                  cases hay
                  have lua : (r : Int) < (A.length : Int) := by rw [HAL.out]; have := HE.out; omega
                  have dua : decide (A.length ≤ r) = false := by simp; omega
                  have dul : decide (u < minC x y) = false := by simp; omega
                  clear eu
                  have hor := minC_one x y
                  clear EA ex ey hv hu HF2
                  generalize minC x y = al at *
                  by_cases hax : al = x
                  · have t1 : (al == x) = true := by rw [hax]; exact beq_self_eq_true _
                    have t2 : (al != x) = false := by rw [hax]; exact bne_self_eq_false _
                    clear hax hor
                    go_wp2
                    simp only [List.append_eq, List.cons_append, List.nil_append]
                    go_quiet (fail)
                    obtain ⟨W2, hW2⟩ : ∃ W2, w9.drewN nq = W2 := ⟨_, rfl⟩
                    have hb : Below w9.heap.size w9 W2 := by rw [← hW2]; exact bl_drn w9 nq
                    rw [hW2]
                    clear hW2
                    replace MA := Lib.hid (MA.out.below hb)
                    replace H := Lib.hid (H.out.below hb)
                    clear c0 c1 c2
                    obtain ⟨_, c0, c1, c2, _⟩ := H.out
                    clear hb
                    by_cases hzl : zs.length = xs.length
                    · have g1 : ((zs.length : Int) != (xs.length : Int)) = false := by rw [bne_eq_false_iff_eq]; omega
                      have g2 : ((zs.length : Int) == (xs.length : Int)) = true := by rw [beq_iff_eq]; omega
                      have HZ := Lib.hid hzl
                      clear hzl
                      have HDL := Lib.hid (show (joinC ys zs).length = xs.length by rw [joinC_len]; have := HE.out; have := HZ.out; omega)
                      go_wp2_with fail
                      with_reducible refine (join_yes _ _ _ d2 A zs _ (by rw [HAL.out]; exact m0) (by rw [HAL.out, HZ.out]) MA.out H.out.rz).mono ?_
                      rintro e w10 ⟨y1, rfl, mc, hb⟩
                      have MC := Lib.hid mc
                      replace H := Lib.hid (H.out.below hb)
                      clear c0 c1 c2
                      obtain ⟨_, c0, c1, c2, _⟩ := H.out
                      clear hb mc MA
                      go_wp2_with fail
                      with_reducible refine (join_yes _ _ _ d2 ys zs _ m1 (by rw [HZ.out, HE.out]) H.out.ry H.out.rz).mono ?_
                      rintro e w11 ⟨y2, rfl, md, hb⟩
                      have MD := Lib.hid md
                      replace MC := Lib.hid (MC.out.below hb)
                      replace H := Lib.hid (H.out.below hb)
                      clear c0 c1 c2
                      obtain ⟨_, c0, c1, c2, _⟩ := H.out
                      clear hb md
                      go_wp2_with fail
                      have h5 := join_yes _ y2 d0 (joinC ys zs).length xs (joinC ys zs) _ m0 HDL.out.symm H.out.rx MD.out
                      rw [← HAS.out] at h5
                      with_reducible refine h5.mono ?_
                      clear h5
                      rintro e w12 ⟨y3, rfl, mx, hb⟩
                      have MX := Lib.hid mx
                      replace MC := Lib.hid (MC.out.below hb)
                      replace H := Lib.hid (H.out.below hb)
                      clear c0 c1 c2
                      obtain ⟨_, c0, c1, c2, _⟩ := H.out
                      clear hb mx MD
                      go_wp2_with fail
                      with_reducible refine (same_yes y1 y3 _ _ (joinC A zs) _ MC.out MX.out (by rw [joinC_len, HAL.out]; omega)).mono ?_
                      rintro e w13 ⟨rfl, hb⟩
                      replace H := Lib.hid (H.out.below hb)
                      clear c0 c1 c2
                      obtain ⟨_, c0, c1, c2, _⟩ := H.out
                      clear hb MC MX
                      go_wp2_with fail
                      refine (awake_any _).mono ?_
                      rintro e w9 ⟨rfl, hb⟩
                      replace H := Lib.hid (H.out.below hb)
                      clear hb c0 c1 c2
                      go_wp2
                      go_ret
                      exact ⟨rfl, H.out.1⟩
                    · have g1 : ((zs.length : Int) != (xs.length : Int)) = true := by rw [bne_iff_ne]; omega
                      have g2 : ((zs.length : Int) == (xs.length : Int)) = false := by rw [beq_eq_false_iff_ne]; omega
                      clear hzl
                      go_wp2_with fail
                      refine (awake_any _).mono ?_
                      rintro e w9 ⟨rfl, hb⟩
                      replace H := Lib.hid (H.out.below hb)
                      clear hb c0 c1 c2
                      go_wp2
                      go_ret
                      exact ⟨rfl, H.out.1⟩
                  · have t1 : (al == x) = false := beq_eq_false_iff_ne.2 hax
                    have t2 : (al != x) = true := bne_iff_ne.2 hax
                    have t3 : (al == y) = true := beq_iff_eq.2 (hor.resolve_left hax)
                    have t4 : (al != y) = false := by rw [hor.resolve_left hax]; exact bne_self_eq_false _
                    clear hax hor
                    go_wp2
                    simp only [List.append_eq, List.cons_append, List.nil_append]
                    go_quiet (fail)
                    obtain ⟨W2, hW2⟩ : ∃ W2, w9.drewN nq = W2 := ⟨_, rfl⟩
                    have hb : Below w9.heap.size w9 W2 := by rw [← hW2]; exact bl_drn w9 nq
                    rw [hW2]
                    clear hW2
                    replace MA := Lib.hid (MA.out.below hb)
                    replace H := Lib.hid (H.out.below hb)
                    clear c0 c1 c2
                    obtain ⟨_, c0, c1, c2, _⟩ := H.out
                    clear hb
                    by_cases hzl : zs.length = xs.length
                    · have g1 : ((zs.length : Int) != (xs.length : Int)) = false := by rw [bne_eq_false_iff_eq]; omega
                      have g2 : ((zs.length : Int) == (xs.length : Int)) = true := by rw [beq_iff_eq]; omega
                      have HZ := Lib.hid hzl
                      clear hzl
                      have HDL := Lib.hid (show (joinC ys zs).length = xs.length by rw [joinC_len]; have := HE.out; have := HZ.out; omega)
                      go_wp2_with fail
                      with_reducible refine (join_yes _ _ _ d2 A zs _ (by rw [HAL.out]; exact m0) (by rw [HAL.out, HZ.out]) MA.out H.out.rz).mono ?_
                      rintro e w10 ⟨y1, rfl, mc, hb⟩
                      have MC := Lib.hid mc
                      replace H := Lib.hid (H.out.below hb)
                      clear c0 c1 c2
                      obtain ⟨_, c0, c1, c2, _⟩ := H.out
                      clear hb mc MA
                      go_wp2_with fail
                      with_reducible refine (join_yes _ _ _ d2 ys zs _ m1 (by rw [HZ.out, HE.out]) H.out.ry H.out.rz).mono ?_
                      rintro e w11 ⟨y2, rfl, md, hb⟩
                      have MD := Lib.hid md
                      replace MC := Lib.hid (MC.out.below hb)
                      replace H := Lib.hid (H.out.below hb)
                      clear c0 c1 c2
                      obtain ⟨_, c0, c1, c2, _⟩ := H.out
                      clear hb md
                      go_wp2_with fail
                      have h5 := join_yes _ y2 d0 (joinC ys zs).length xs (joinC ys zs) _ m0 HDL.out.symm H.out.rx MD.out
                      rw [← HAS.out] at h5
                      with_reducible refine h5.mono ?_
                      clear h5
                      rintro e w12 ⟨y3, rfl, mx, hb⟩
                      have MX := Lib.hid mx
                      replace MC := Lib.hid (MC.out.below hb)
                      replace H := Lib.hid (H.out.below hb)
                      clear c0 c1 c2
                      obtain ⟨_, c0, c1, c2, _⟩ := H.out
                      clear hb mx MD
                      go_wp2_with fail
                      with_reducible refine (same_yes y1 y3 _ _ (joinC A zs) _ MC.out MX.out (by rw [joinC_len, HAL.out]; omega)).mono ?_
                      rintro e w13 ⟨rfl, hb⟩
                      replace H := Lib.hid (H.out.below hb)
                      clear c0 c1 c2
                      obtain ⟨_, c0, c1, c2, _⟩ := H.out
                      clear hb MC MX
                      go_wp2_with fail
                      refine (awake_any _).mono ?_
                      rintro e w9 ⟨rfl, hb⟩
                      replace H := Lib.hid (H.out.below hb)
                      clear hb c0 c1 c2
                      go_wp2
                      go_ret
                      exact ⟨rfl, H.out.1⟩
                    · have g1 : ((zs.length : Int) != (xs.length : Int)) = true := by rw [bne_iff_ne]; omega
                      have g2 : ((zs.length : Int) == (xs.length : Int)) = false := by rw [beq_eq_false_iff_ne]; omega
                      clear hzl
                      go_wp2_with fail
                      refine (awake_any _).mono ?_
                      rintro e w9 ⟨rfl, hb⟩
                      replace H := Lib.hid (H.out.below hb)
                      clear hb c0 c1 c2
                      go_wp2
                      go_ret
                      exact ⟨rfl, H.out.1⟩
              · cases o2 : (leastC ys).2
                · skip
                  rw [o1, o2] at HF2
                  clear o1 o2
                  obtain ⟨x, y, _, ex, ey, hv, hu⟩ := HF2.out rfl
                  have EA : A[p]? = some (minC x y) := by rw [← HJA.out]; exact joinC_at ex ey
                  obtain ⟨ba, oa, rfl, qa, la⟩ := MA.out.get EA
                  obtain ⟨bx, ox, rfl, qx, lx⟩ := H.out.rx.get ex
                  obtain ⟨bY, oY, rfl, qy, ly⟩ := H.out.ry.get ey
                  have p0 : (0 : Int) ≤ (p : Int) := by omega
                  have dpa : decide (A.length ≤ p) = false := by simp; omega
                  have q0 : (0 : Int) ≤ (q : Int) := by omega
                  have r0 : (0 : Int) ≤ (r : Int) := by omega
                  obtain ⟨v, ev, hle⟩ := hv rfl
                  obtain ⟨bx', ox', hax, qv, lv⟩ := H.out.rx.get ev
                  cases hax
                  have lva : (q : Int) < (A.length : Int) := by rw [HAL.out]; exact lv
                  have dva : decide (A.length ≤ q) = false := by simp; omega
                  have dvl : decide (v < minC x y) = false := by simp; omega
                  clear ev
                  have hor := minC_one x y
                  clear EA ex ey hv hu HF2
                  generalize minC x y = al at *
                  by_cases hax : al = x
                  · have t1 : (al == x) = true := by rw [hax]; exact beq_self_eq_true _
                    have t2 : (al != x) = false := by rw [hax]; exact bne_self_eq_false _
                    clear hax hor
                    go_wp2
                    simp only [List.append_eq, List.cons_append, List.nil_append]
                    go_quiet (fail)
                    obtain ⟨W2, hW2⟩ : ∃ W2, w9.drewN nq = W2 := ⟨_, rfl⟩
                    have hb : Below w9.heap.size w9 W2 := by rw [← hW2]; exact bl_drn w9 nq
                    rw [hW2]
                    clear hW2
                    replace MA := Lib.hid (MA.out.below hb)
                    replace H := Lib.hid (H.out.below hb)
                    clear c0 c1 c2
                    obtain ⟨_, c0, c1, c2, _⟩ := H.out
                    clear hb
                    by_cases hzl : zs.length = xs.length
                    · have g1 : ((zs.length : Int) != (xs.length : Int)) = false := by rw [bne_eq_false_iff_eq]; omega
                      have g2 : ((zs.length : Int) == (xs.length : Int)) = true := by rw [beq_iff_eq]; omega
                      have HZ := Lib.hid hzl
                      clear hzl
                      have HDL := Lib.hid (show (joinC ys zs).length = xs.length by rw [joinC_len]; have := HE.out; have := HZ.out; omega)
                      go_wp2_with fail
                      with_reducible refine (join_yes _ _ _ d2 A zs _ (by rw [HAL.out]; exact m0) (by rw [HAL.out, HZ.out]) MA.out H.out.rz).mono ?_
                      rintro e w10 ⟨y1, rfl, mc, hb⟩
                      have MC := Lib.hid mc
                      replace H := Lib.hid (H.out.below hb)
                      clear c0 c1 c2
                      obtain ⟨_, c0, c1, c2, _⟩ := H.out
                      clear hb mc MA
                      go_wp2_with fail
                      with_reducible refine (join_yes _ _ _ d2 ys zs _ m1 (by rw [HZ.out, HE.out]) H.out.ry H.out.rz).mono ?_
                      rintro e w11 ⟨y2, rfl, md, hb⟩
                      have MD := Lib.hid md
                      replace MC := Lib.hid (MC.out.below hb)
                      replace H := Lib.hid (H.out.below hb)
                      clear c0 c1 c2
                      obtain ⟨_, c0, c1, c2, _⟩ := H.out
                      clear hb md
                      go_wp2_with fail
                      have h5 := join_yes _ y2 d0 (joinC ys zs).length xs (joinC ys zs) _ m0 HDL.out.symm H.out.rx MD.out
                      rw [← HAS.out] at h5
                      with_reducible refine h5.mono ?_
                      clear h5
                      rintro e w12 ⟨y3, rfl, mx, hb⟩
                      have MX := Lib.hid mx
                      replace MC := Lib.hid (MC.out.below hb)
                      replace H := Lib.hid (H.out.below hb)
                      clear c0 c1 c2
                      obtain ⟨_, c0, c1, c2, _⟩ := H.out
                      clear hb mx MD
                      go_wp2_with fail
                      with_reducible refine (same_yes y1 y3 _ _ (joinC A zs) _ MC.out MX.out (by rw [joinC_len, HAL.out]; omega)).mono ?_
                      rintro e w13 ⟨rfl, hb⟩
                      replace H := Lib.hid (H.out.below hb)
                      clear c0 c1 c2
                      obtain ⟨_, c0, c1, c2, _⟩ := H.out
                      clear hb MC MX
                      go_wp2_with fail
                      refine (awake_any _).mono ?_
                      rintro e w9 ⟨rfl, hb⟩
                      replace H := Lib.hid (H.out.below hb)
                      clear hb c0 c1 c2
                      go_wp2
                      go_ret
                      exact ⟨rfl, H.out.1⟩
                    · have g1 : ((zs.length : Int) != (xs.length : Int)) = true := by rw [bne_iff_ne]; omega
                      have g2 : ((zs.length : Int) == (xs.length : Int)) = false := by rw [beq_eq_false_iff_ne]; omega
                      clear hzl
                      go_wp2_with fail
                      refine (awake_any _).mono ?_
                      rintro e w9 ⟨rfl, hb⟩
                      replace H := Lib.hid (H.out.below hb)
                      clear hb c0 c1 c2
                      go_wp2
                      go_ret
                      exact ⟨rfl, H.out.1⟩
                  · have t1 : (al == x) = false := beq_eq_false_iff_ne.2 hax
                    have t2 : (al != x) = true := bne_iff_ne.2 hax
                    have t3 : (al == y) = true := beq_iff_eq.2 (hor.resolve_left hax)
                    have t4 : (al != y) = false := by rw [hor.resolve_left hax]; exact bne_self_eq_false _
                    clear hax hor
                    go_wp2
                    simp only [List.append_eq, List.cons_append, List.nil_append]
                    go_quiet (fail)
                    obtain ⟨W2, hW2⟩ : ∃ W2, w9.drewN nq = W2 := ⟨_, rfl⟩
                    have hb : Below w9.heap.size w9 W2 := by rw [← hW2]; exact bl_drn w9 nq
                    rw [hW2]
                    clear hW2
                    replace MA := Lib.hid (MA.out.below hb)
                    replace H := Lib.hid (H.out.below hb)
                    clear c0 c1 c2
                    obtain ⟨_, c0, c1, c2, _⟩ := H.out
                    clear hb
                    by_cases hzl : zs.length = xs.length
                    · have g1 : ((zs.length : Int) != (xs.length : Int)) = false := by rw [bne_eq_false_iff_eq]; omega
                      have g2 : ((zs.length : Int) == (xs.length : Int)) = true := by rw [beq_iff_eq]; omega
                      have HZ := Lib.hid hzl
                      clear hzl
                      have HDL := Lib.hid (show (joinC ys zs).length = xs.length by rw [joinC_len]; have := HE.out; have := HZ.out; omega)
                      go_wp2_with fail
                      with_reducible refine (join_yes _ _ _ d2 A zs _ (by rw [HAL.out]; exact m0) (by rw [HAL.out, HZ.out]) MA.out H.out.rz).mono ?_
                      rintro e w10 ⟨y1, rfl, mc, hb⟩
                      have MC := Lib.hid mc
                      replace H := Lib.hid (H.out.below hb)
                      clear c0 c1 c2
                      obtain ⟨_, c0, c1, c2, _⟩ := H.out
                      clear hb mc MA
                      go_wp2_with fail
                      with_reducible refine (join_yes _ _ _ d2 ys zs _ m1 (by rw [HZ.out, HE.out]) H.out.ry H.out.rz).mono ?_
                      rintro e w11 ⟨y2, rfl, md, hb⟩
                      have MD := Lib.hid md
                      replace MC := Lib.hid (MC.out.below hb)
                      replace H := Lib.hid (H.out.below hb)
                      clear c0 c1 c2
                      obtain ⟨_, c0, c1, c2, _⟩ := H.out
                      clear hb md
                      go_wp2_with fail
                      have h5 := join_yes _ y2 d0 (joinC ys zs).length xs (joinC ys zs) _ m0 HDL.out.symm H.out.rx MD.out
                      rw [← HAS.out] at h5
                      with_reducible refine h5.mono ?_
                      clear h5
                      rintro e w12 ⟨y3, rfl, mx, hb⟩
                      have MX := Lib.hid mx
                      replace MC := Lib.hid (MC.out.below hb)
                      replace H := Lib.hid (H.out.below hb)
                      clear c0 c1 c2
                      obtain ⟨_, c0, c1, c2, _⟩ := H.out
                      clear hb mx MD
                      go_wp2_with fail
                      with_reducible refine (same_yes y1 y3 _ _ (joinC A zs) _ MC.out MX.out (by rw [joinC_len, HAL.out]; omega)).mono ?_
                      rintro e w13 ⟨rfl, hb⟩
                      replace H := Lib.hid (H.out.below hb)
                      clear c0 c1 c2
                      obtain ⟨_, c0, c1, c2, _⟩ := H.out
                      clear hb MC MX
                      go_wp2_with fail
                      refine (awake_any _).mono ?_
                      rintro e w9 ⟨rfl, hb⟩
                      replace H := Lib.hid (H.out.below hb)
                      clear hb c0 c1 c2
                      go_wp2
                      go_ret
                      exact ⟨rfl, H.out.1⟩
                    · have g1 : ((zs.length : Int) != (xs.length : Int)) = true := by rw [bne_iff_ne]; omega
                      have g2 : ((zs.length : Int) == (xs.length : Int)) = false := by rw [beq_eq_false_iff_ne]; omega
                      clear hzl
                      go_wp2_with fail
                      refine (awake_any _).mono ?_
                      rintro e w9 ⟨rfl, hb⟩
                      replace H := Lib.hid (H.out.below hb)
                      clear hb c0 c1 c2
                      go_wp2
                      go_ret
                      exact ⟨rfl, H.out.1⟩
                · skip
                  rw [o1, o2] at HF2
                  clear o1 o2
                  obtain ⟨x, y, _, ex, ey, hv, hu⟩ := HF2.out rfl
                  have EA : A[p]? = some (minC x y) := by rw [← HJA.out]; exact joinC_at ex ey
                  obtain ⟨ba, oa, rfl, qa, la⟩ := MA.out.get EA
                  obtain ⟨bx, ox, rfl, qx, lx⟩ := H.out.rx.get ex
                  obtain ⟨bY, oY, rfl, qy, ly⟩ := H.out.ry.get ey
                  have p0 : (0 : Int) ≤ (p : Int) := by omega
                  have dpa : decide (A.length ≤ p) = false := by simp; omega
                  have q0 : (0 : Int) ≤ (q : Int) := by omega
                  have r0 : (0 : Int) ≤ (r : Int) := by omega
                  obtain ⟨v, ev, hle⟩ := hv rfl
                  obtain ⟨bx', ox', hax, qv, lv⟩ := H.out.rx.get ev
                  cases hax
                  have lva : (q : Int) < (A.length : Int) := by rw [HAL.out]; exact lv
                  have dva : decide (A.length ≤ q) = false := by simp; omega
                  have dvl : decide (v < minC x y) = false := by simp; omega
                  clear ev
                  obtain ⟨u, eu, hle2⟩ := hu rfl
                  obtain ⟨bY', oY', hay, qu, lu⟩ := H.out.ry.get eu
                  cases hay
                  have lua : (r : Int) < (A.length : Int) := by rw [HAL.out]; have := HE.out; omega
                  have dua : decide (A.length ≤ r) = false := by simp; omega
                  have dul : decide (u < minC x y) = false := by simp; omega
                  clear eu
                  have hor := minC_one x y
                  clear EA ex ey hv hu HF2
                  generalize minC x y = al at *
                  by_cases hax : al = x
                  · have t1 : (al == x) = true := by rw [hax]; exact beq_self_eq_true _
                    have t2 : (al != x) = false := by rw [hax]; exact bne_self_eq_false _
                    clear hax hor
                    go_wp2
                    simp only [List.append_eq, List.cons_append, List.nil_append]
                    go_quiet (fail)
                    obtain ⟨W2, hW2⟩ : ∃ W2, w9.drewN nq = W2 := ⟨_, rfl⟩
                    have hb : Below w9.heap.size w9 W2 := by rw [← hW2]; exact bl_drn w9 nq
                    rw [hW2]
                    clear hW2
                    replace MA := Lib.hid (MA.out.below hb)
                    replace H := Lib.hid (H.out.below hb)
                    clear c0 c1 c2
                    obtain ⟨_, c0, c1, c2, _⟩ := H.out
                    clear hb
                    by_cases hzl : zs.length = xs.length
                    · have g1 : ((zs.length : Int) != (xs.length : Int)) = false := by rw [bne_eq_false_iff_eq]; omega
                      have g2 : ((zs.length : Int) == (xs.length : Int)) = true := by rw [beq_iff_eq]; omega
                      have HZ := Lib.hid hzl
                      clear hzl
                      have HDL := Lib.hid (show (joinC ys zs).length = xs.length by rw [joinC_len]; have := HE.out; have := HZ.out; omega)
                      go_wp2_with fail
                      with_reducible refine (join_yes _ _ _ d2 A zs _ (by rw [HAL.out]; exact m0) (by rw [HAL.out, HZ.out]) MA.out H.out.rz).mono ?_
                      rintro e w10 ⟨y1, rfl, mc, hb⟩
                      have MC := Lib.hid mc
                      replace H := Lib.hid (H.out.below hb)
                      clear c0 c1 c2
                      obtain ⟨_, c0, c1, c2, _⟩ := H.out
                      clear hb mc MA
                      go_wp2_with fail
                      with_reducible refine (join_yes _ _ _ d2 ys zs _ m1 (by rw [HZ.out, HE.out]) H.out.ry H.out.rz).mono ?_
                      rintro e w11 ⟨y2, rfl, md, hb⟩
                      have MD := Lib.hid md
                      replace MC := Lib.hid (MC.out.below hb)
                      replace H := Lib.hid (H.out.below hb)
                      clear c0 c1 c2
                      obtain ⟨_, c0, c1, c2, _⟩ := H.out
                      clear hb md
                      go_wp2_with fail
                      have h5 := join_yes _ y2 d0 (joinC ys zs).length xs (joinC ys zs) _ m0 HDL.out.symm H.out.rx MD.out
                      rw [← HAS.out] at h5
                      with_reducible refine h5.mono ?_
                      clear h5
                      rintro e w12 ⟨y3, rfl, mx, hb⟩
                      have MX := Lib.hid mx
                      replace MC := Lib.hid (MC.out.below hb)
                      replace H := Lib.hid (H.out.below hb)
                      clear c0 c1 c2
                      obtain ⟨_, c0, c1, c2, _⟩ := H.out
                      clear hb mx MD
                      go_wp2_with fail
                      with_reducible refine (same_yes y1 y3 _ _ (joinC A zs) _ MC.out MX.out (by rw [joinC_len, HAL.out]; omega)).mono ?_
                      rintro e w13 ⟨rfl, hb⟩
                      replace H := Lib.hid (H.out.below hb)
                      clear c0 c1 c2
                      obtain ⟨_, c0, c1, c2, _⟩ := H.out
                      clear hb MC MX
                      go_wp2_with fail
                      refine (awake_any _).mono ?_
                      rintro e w9 ⟨rfl, hb⟩
                      replace H := Lib.hid (H.out.below hb)
                      clear hb c0 c1 c2
                      go_wp2
                      go_ret
                      exact ⟨rfl, H.out.1⟩
                    · have g1 : ((zs.length : Int) != (xs.length : Int)) = true := by rw [bne_iff_ne]; omega
                      have g2 : ((zs.length : Int) == (xs.length : Int)) = false := by rw [beq_eq_false_iff_ne]; omega
                      clear hzl
                      go_wp2_with fail
                      refine (awake_any _).mono ?_
                      rintro e w9 ⟨rfl, hb⟩
                      replace H := Lib.hid (H.out.below hb)
                      clear hb c0 c1 c2
                      go_wp2
                      go_ret
                      exact ⟨rfl, H.out.1⟩
                  · have t1 : (al == x) = false := beq_eq_false_iff_ne.2 hax
                    have t2 : (al != x) = true := bne_iff_ne.2 hax
                    have t3 : (al == y) = true := beq_iff_eq.2 (hor.resolve_left hax)
                    have t4 : (al != y) = false := by rw [hor.resolve_left hax]; exact bne_self_eq_false _
                    clear hax hor
                    go_wp2
                    simp only [List.append_eq, List.cons_append, List.nil_append]
                    go_quiet (fail)
                    obtain ⟨W2, hW2⟩ : ∃ W2, w9.drewN nq = W2 := ⟨_, rfl⟩
                    have hb : Below w9.heap.size w9 W2 := by rw [← hW2]; exact bl_drn w9 nq
                    rw [hW2]
                    clear hW2
                    replace MA := Lib.hid (MA.out.below hb)
                    replace H := Lib.hid (H.out.below hb)
                    clear c0 c1 c2
                    obtain ⟨_, c0, c1, c2, _⟩ := H.out
                    clear hb
                    by_cases hzl : zs.length = xs.length
                    · have g1 : ((zs.length : Int) != (xs.length : Int)) = false := by rw [bne_eq_false_iff_eq]; omega
                      have g2 : ((zs.length : Int) == (xs.length : Int)) = true := by rw [beq_iff_eq]; omega
                      have HZ := Lib.hid hzl
                      clear hzl
                      have HDL := Lib.hid (show (joinC ys zs).length = xs.length by rw [joinC_len]; have := HE.out; have := HZ.out; omega)
                      go_wp2_with fail
                      with_reducible refine (join_yes _ _ _ d2 A zs _ (by rw [HAL.out]; exact m0) (by rw [HAL.out, HZ.out]) MA.out H.out.rz).mono ?_
                      rintro e w10 ⟨y1, rfl, mc, hb⟩
                      have MC := Lib.hid mc
                      replace H := Lib.hid (H.out.below hb)
                      clear c0 c1 c2
                      obtain ⟨_, c0, c1, c2, _⟩ := H.out
                      clear hb mc MA
                      go_wp2_with fail
                      with_reducible refine (join_yes _ _ _ d2 ys zs _ m1 (by rw [HZ.out, HE.out]) H.out.ry H.out.rz).mono ?_
                      rintro e w11 ⟨y2, rfl, md, hb⟩
                      have MD := Lib.hid md
                      replace MC := Lib.hid (MC.out.below hb)
                      replace H := Lib.hid (H.out.below hb)
                      clear c0 c1 c2
                      obtain ⟨_, c0, c1, c2, _⟩ := H.out
                      clear hb md
                      go_wp2_with fail
                      have h5 := join_yes _ y2 d0 (joinC ys zs).length xs (joinC ys zs) _ m0 HDL.out.symm H.out.rx MD.out
                      rw [← HAS.out] at h5
                      with_reducible refine h5.mono ?_
                      clear h5
                      rintro e w12 ⟨y3, rfl, mx, hb⟩
                      have MX := Lib.hid mx
                      replace MC := Lib.hid (MC.out.below hb)
                      replace H := Lib.hid (H.out.below hb)
                      clear c0 c1 c2
                      obtain ⟨_, c0, c1, c2, _⟩ := H.out
                      clear hb mx MD
                      go_wp2_with fail
                      with_reducible refine (same_yes y1 y3 _ _ (joinC A zs) _ MC.out MX.out (by rw [joinC_len, HAL.out]; omega)).mono ?_
                      rintro e w13 ⟨rfl, hb⟩
                      replace H := Lib.hid (H.out.below hb)
                      clear c0 c1 c2
                      obtain ⟨_, c0, c1, c2, _⟩ := H.out
                      clear hb MC MX
                      go_wp2_with fail
                      refine (awake_any _).mono ?_
                      rintro e w9 ⟨rfl, hb⟩
                      replace H := Lib.hid (H.out.below hb)
                      clear hb c0 c1 c2
                      go_wp2
                      go_ret
                      exact ⟨rfl, H.out.1⟩
                    · have g1 : ((zs.length : Int) != (xs.length : Int)) = true := by rw [bne_iff_ne]; omega
                      have g2 : ((zs.length : Int) == (xs.length : Int)) = false := by rw [beq_eq_false_iff_ne]; omega
                      clear hzl
                      go_wp2_with fail
                      refine (awake_any _).mono ?_
                      rintro e w9 ⟨rfl, hb⟩
                      replace H := Lib.hid (H.out.below hb)
                      clear hb c0 c1 c2
                      go_wp2
                      go_ret
                      exact ⟨rfl, H.out.1⟩
        · have ne1 : ((xs.length : Int) == (ys.length : Int)) = false := by rw [beq_eq_false_iff_ne]; omega
          have ne2 : ((xs.length : Int) != (ys.length : Int)) = true := by rw [bne_iff_ne]; omega
          refine (join_no a0 a1 d0 d1 _ _ _ he).mono ?_
          rintro e w2 ⟨rfl, hb⟩
          replace H := Lib.hid (H.out.below hb)
          clear c0 c1 c2
          obtain ⟨_, c0, c1, c2, _⟩ := H.out
          clear hb
          go_wp2_with fail
          refine (join_no a1 a0 d1 d0 _ _ _ (fun e => he e.symm)).mono ?_
          rintro e w3 ⟨rfl, hb⟩
          replace H := Lib.hid (H.out.below hb)
          clear c0 c1 c2
          obtain ⟨_, c0, c1, c2, _⟩ := H.out
          clear hb he
          go_wp2_with fail
          refine (awake_any _).mono ?_
          rintro e w9 ⟨rfl, hb⟩
          replace H := Lib.hid (H.out.below hb)
          clear hb c0 c1 c2
          go_wp2
          go_ret
          exact ⟨rfl, H.out.1⟩
end Go.Proofs.Ytgkeifjnnpcleab
