/- Least costs by definition: the reference's Far. -/
import Derived.Test.YtgbhafadibdmcaaDoorJ1
import Derived.Test.YtgbhafadibdmcaaDoorOz
namespace Go.Proofs.YtgbhafadibdmcaaDoor
open Go.RowKit

/-- What Far holds: its arguments' blocks, and the costs as they stand. -/
structure FrI (w : World) (A B X Y : Int) (U V : Nat) (c : IC) (a : Option Addr) (n cap : Nat) (st : List Int) (W : World) : Prop where
  bel : Below w.heap.size w W
  f0 : W.cell? ⟨w.heap.size, 0, none⟩ = some (.int .i64 A)
  f1 : W.cell? ⟨w.heap.size, 1, none⟩ = some (.int .i64 B)
  f2 : W.cell? ⟨w.heap.size, 2, none⟩ = some (.slice a n cap)
  x0 : W.cell? ⟨w.heap.size + 1, 0, none⟩ = some (.int .i64 X)
  x1 : W.cell? ⟨w.heap.size + 1, 1, none⟩ = some (.int .i64 Y)
  x2 : W.cell? ⟨w.heap.size + 1, 2, none⟩ = some (.int .i64 U)
  x3 : W.cell? ⟨w.heap.size + 1, 3, none⟩ = some (.int .i64 V)
  s0 : W.cell? ⟨w.heap.size + 1 + 1, 0, none⟩ = some (.int .i64 c.1)
  s1 : W.cell? ⟨w.heap.size + 1 + 1, 1, none⟩ = some (.int .i64 c.2)
  row : W.heap[w.heap.size + 1 + 1 + 1]? = some (.cells (cellsU st).toArray 36 (0, 0))
section
variable {w : World} {A B X Y : Int} {U V : Nat} {c : IC} {a : Option Addr} {n cap : Nat} {st : List Int} {W W' : World}
theorem FrI.below (h : FrI w A B X Y U V c a n cap st W) (hb : Below W.heap.size W W') : FrI w A B X Y U V c a n cap st W' :=
  ⟨bl_tr h.bel hb, cell_later hb h.f0, cell_later hb h.f1, cell_later hb h.f2, cell_later hb h.x0, cell_later hb h.x1, cell_later hb h.x2, cell_later hb h.x3, cell_later hb h.s0, cell_later hb h.s1, (hb.block _ (Array.getElem?_eq_some_iff.1 h.row).1).trans h.row⟩
theorem FrI.size (h : FrI w A B X Y U V c a n cap st W) : w.heap.size + 1 + 1 + 1 < W.heap.size := (Array.getElem?_eq_some_iff.1 h.row).1
theorem FrI.set (h : FrI w A B X Y U V c a n cap st W) (i : Nat) (v : Int) : FrI w A B X Y U V c a n cap (st.set i v) (W.setCell ⟨w.heap.size + 1 + 1 + 1, i, none⟩ (.int .u64 v)) := by
  have hg := hgrown_set W (w.heap.size + 1 + 1 + 1) i (.int .u64 v)
  have hne : ∀ j, j ≠ w.heap.size + 1 + 1 + 1 → some j ≠ some (w.heap.size + 1 + 1 + 1) := fun j hj e => hj (Option.some.inj e)
  have hr := hset_same W _ i _ _ (.int .u64 v) h.row
  refine ⟨h.bel.grown hg h.bel.size (fun k hk => by cases hk; omega), hg.cell h.f0 (hne _ (by simp <;> omega)), hg.cell h.f1 (hne _ (by simp <;> omega)), hg.cell h.f2 (hne _ (by simp <;> omega)), hg.cell h.x0 (hne _ (by simp <;> omega)), hg.cell h.x1 (hne _ (by simp <;> omega)), hg.cell h.x2 (hne _ (by simp <;> omega)), hg.cell h.x3 (hne _ (by simp <;> omega)), hg.cell h.s0 (hne _ (by simp <;> omega)), hg.cell h.s1 (hne _ (by simp <;> omega)), ?_⟩
  rw [hr, ← cellsU_set]
  simp
theorem FrI.at (h : FrI w A B X Y U V c a n cap st W) {k : Nat} (hk : k < st.length) : W.cell? ⟨w.heap.size + 1 + 1 + 1, k, none⟩ = some (.int .u64 (atD st k)) ∧ W.frozen? ⟨w.heap.size + 1 + 1 + 1, k, none⟩ = false := by
  have h1 : atD st k = st[k] := (atD_get hk).symm
  rw [h1]
  simp [World.cell?, World.frozen?, h.row, cellsU, hk]
theorem FrI.rowU (h : FrI w A B X Y U V c a n cap st W) : RowU W (some ⟨w.heap.size + 1 + 1 + 1, 0, none⟩) st := by
  refine .inr ⟨_, 0, rfl, fun i z hz => ?_⟩
  obtain ⟨hi, hz2⟩ := List.getElem?_eq_some_iff.1 hz
  have := (h.at hi).1
  rw [← atD_get hi, hz2] at this
  rw [Nat.zero_add]
  exact this
end
theorem step_pl {x y d : Int} (h0 : 0 ≤ d) (h4 : d < 4) (x0 : 0 ≤ x) (x1 : x ≤ 255) (y0 : 0 ≤ y) (y1 : y ≤ 255) : (-1 ≤ (stepI (x, y) d).1 ∧ (stepI (x, y) d).1 ≤ 256) ∧ -1 ≤ (stepI (x, y) d).2 ∧ (stepI (x, y) d).2 ≤ 256 := by
  obtain rfl | rfl | rfl | rfl : d = 0 ∨ d = 1 ∨ d = 2 ∨ d = 3 := by omega
  all_goals (simp [stepI, dxI, dyI]; omega)
theorem runO_snoc (A : Int) (b : BX) (zs st : List Int) (l : List (IC × Nat)) (o : IC × Nat) : runO A b zs st (l ++ [o]) = rlx A b zs (runO A b zs st l) o := by rw [runO_app, runO_one]
/-- The costs while they are filled. -/
def filL (n k : Nat) : List Int := List.replicate k 18446744073709551615 ++ List.replicate (n - k) 0
theorem filL_len {n k : Nat} (h : k ≤ n) : (filL n k).length = n := by simp [filL]; omega
theorem filL_set {n k : Nat} (h : k < n) : (filL n k).set k 18446744073709551615 = filL n (k + 1) := by
  unfold filL
  rw [List.set_append_right _ _ (by simp), show n - k = (n - (k + 1)) + 1 by omega, List.replicate_succ, List.replicate_succ']
  simp
theorem filL_all (n : Nat) : filL n n = List.replicate n 18446744073709551615 := by simp [filL]
theorem zerosU (n : Nat) : (cellsU (filL n 0)).toArray = Array.replicate n (Value.int .u64 0) := by simp [cellsU, filL]

set_option maxRecDepth 100000 in
set_option maxHeartbeats 2000000 in
theorem cost8_any (A B : Int) (a : Option Addr) (cap : Nat) (zs : List Int) (c : IC) (w : World) (hr : RowH w a zs) (hin : AllH zs) (hi : onB A B c = true) (hn : (zs.length : Int) = A * B) :
    Calls Tryd.prog 36 #[.agg #[.int .i64 A, .int .i64 B, .slice a zs.length cap], .agg #[.int .i64 c.1, .int .i64 c.2]] w fun e w' => e = .returned (.int .u64 (zs.getD (numN A c) 0)) ∧ Below w.heap.size w w' := by
  obtain ⟨n1, n2⟩ := numN_int hi
  obtain ⟨h1, h2, h3, h4, h5, h6, h7, h8⟩ := inB_iff.1 hi
  obtain ⟨m1, m2⟩ := mul_bd h7 (by omega) h1 h2
  obtain ⟨z1, z2⟩ := getD_in hin (numN A c)
  have hl : numN A c < zs.length := by omega
  have e1 : IntKind.i64.wrap (c.2 * A) = c.2 * A := IntWalk.i64_in _ (by omega)
  have e2 : IntKind.i64.wrap (c.2 * A + c.1) = (numN A c : Int) := by rw [n1]; exact IntWalk.i64_in _ (by omega)
  have hj0 : (0 : Int) ≤ (numN A c : Int) := by omega
  have hl2 : (numN A c : Int) < (zs.length : Int) := by omega
  obtain ⟨gb, go, rfl, q⟩ := hr.cell hl
  rw [show zs[numN A c] = zs.getD (numN A c) 0 by rw [List.getD_eq_getElem?_getD, List.getElem?_eq_getElem hl]; rfl] at q
  generalize zs.getD (numN A c) 0 = z at *
  have e3 : IntKind.u64.wrap z = z := by rw [IntKind.wrap_u64]; omega
  replace q := cell_later (bl_al (bl_al (bl0 w) (.cells #[.int .i64 A, .int .i64 B, .slice (some ⟨gb, go, none⟩) zs.length cap] 26)) (.cells #[.int .i64 c.1, .int .i64 c.2] 30)) q
  clear hr hi hn h1 h2 h3 h4 h5 h6 h7 h8 m1 m2 z1 z2 hl n1 n2
  generalize numN A c = j at *
  go_enter Tryd.func36, Tryd.ntmps36
  go_wp2
  go_ret
  exact ⟨rfl, bl_al (bl_al (bl0 _) _) _⟩

set_option maxRecDepth 100000 in
set_option maxHeartbeats 16000000 in
theorem far8_any (A B X Y : Int) (U V : Nat) (a : Option Addr) (cap : Nat) (zs : List Int) (c : IC) (w : World) (hr : RowH w a zs) (hz : AllH zs) (hn : (zs.length : Int) = A * B) (hx : BoxOn A B X Y U V) (hc : inBx (X, Y, (U : Int), (V : Int)) c = true) :
    Calls Tryd.prog 12 #[.agg #[.int .i64 A, .int .i64 B, .slice a zs.length cap], .agg #[.int .i64 X, .int .i64 Y, .int .i64 U, .int .i64 V], .agg #[.int .i64 c.1, .int .i64 c.2]] w fun e w' => ∃ g, e = .returned (.slice (some ⟨g, 0, none⟩) zs.length zs.length) ∧ RowU w' (some ⟨g, 0, none⟩) (farO A (X, Y, (U : Int), (V : Int)) zs c) ∧ Below w.heap.size w w' := by
  have hx' := hx
  obtain ⟨⟨a1, a2⟩, ⟨b1, b2⟩, ⟨x1, x2⟩, ⟨y1, y2⟩, u1, v1⟩ := hx'
  have hm := hx.may
  have hal := area_bd hm
  have hlen : zs.length ≤ 1048576 := by omega
  have hlen2 : (zs.length : Int) ≤ 1048576 := by omega
  obtain ⟨hon, _⟩ := hx.on hc
  obtain ⟨c1, c2, c3, c4⟩ := hx.inb.1 hc
  obtain ⟨e1, e2⟩ := numN_int hon
  obtain ⟨mm1, mm2⟩ := mul_bd (show 0 ≤ c.2 by omega) (by omega) a1 a2
  have hsw1 : IntKind.i64.wrap (c.2 * A) = c.2 * A := IntWalk.i64_in _ (by omega)
  have hsw2 : IntKind.i64.wrap (c.2 * A + c.1) = (numN A c : Int) := by rw [e1]; exact IntWalk.i64_in _ (by omega)
  have hsl : numN A c < zs.length := by omega
  have hsl0 : (0 : Int) ≤ (numN A c : Int) := by omega
  have hsl2 : (numN A c : Int) < (zs.length : Int) := by omega
  have hrt := (fitsB_iff.1 hx.fits).1
  have hwx : IntKind.i64.wrap (X + (U : Int)) = X + U := IntWalk.i64_in _ (by omega)
  have hwy : IntKind.i64.wrap (Y + (V : Int)) = Y + V := IntWalk.i64_in _ (by omega)
  have HCO := Lib.hid (fun (d : IC) (hd : onB A B d = true) w (h : RowH w a zs) => cost8_any A B a cap zs d w h hz hd hn)
  have HCS := Lib.hid (HCO.out c hon)
  have HHA := Lib.hid (fun (d : IC) (hd : wf64 d.1 ∧ wf64 d.2) w => rhas8_any X Y U V d w hrt ⟨x1, y1⟩ hd)
  have HST := Lib.hid (fun (x y : Int) (d : Nat) (hp : plainB x y = true) (hd : d < 4) w => rstep8_any x y (d : Int) w hp (by omega) (by omega))
  have HNU := Lib.hid (fun (d : IC) (hd : inBx (X, Y, (U : Int), (V : Int)) d = true) => (show numN A d < zs.length ∧ IntKind.i64.wrap (d.2 * A) = d.2 * A ∧ IntKind.i64.wrap (d.2 * A + d.1) = (numN A d : Int) ∧ onB A B d = true by
    obtain ⟨o1, _⟩ := hx.on hd
    obtain ⟨i1, i2⟩ := numN_int o1
    obtain ⟨j1, j2, j3, j4⟩ := hx.inb.1 hd
    obtain ⟨k1, k2⟩ := mul_bd (show 0 ≤ d.2 by omega) (by omega) a1 a2
    exact ⟨by omega, IntWalk.i64_in _ (by omega), by rw [i1]; exact IntWalk.i64_in _ (by omega), o1⟩))
  have HIN := Lib.hid (fun (d : IC) => (hx.inb (c := d)))
  have hmk := fun w => make_u64 zs.length hlen w
  have hfo : farO A (X, Y, (U : Int), (V : Int)) zs c = if zs.getD (numN A c) 0 = 0 then List.replicate zs.length 18446744073709551615 else itO A (X, Y, (U : Int), (V : Int)) zs (st0 A zs c) zs.length := rfl
  obtain ⟨R, hR⟩ : ∃ R, farO A (X, Y, (U : Int), (V : Int)) zs c = R := ⟨_, rfl⟩
  rw [hR] at hfo ⊢
  obtain ⟨k0, hk0⟩ : ∃ k0, zs.getD (numN A c) 0 = k0 := ⟨_, rfl⟩
  rw [hk0] at hfo HCS
  have hs0 : st0 A zs c = (List.replicate zs.length 18446744073709551615).set (numN A c) 0 := rfl
  have hs0l : (st0 A zs c).length = zs.length := by simp [st0]
  obtain ⟨s0, hs0e⟩ : ∃ s0, st0 A zs c = s0 := ⟨_, rfl⟩
  rw [hs0e] at hfo hs0 hs0l
  obtain ⟨I, hI⟩ : ∃ I : Nat → List Int, itO A (X, Y, (U : Int), (V : Int)) zs s0 = I := ⟨_, rfl⟩
  rw [hI] at hfo
  have HI0 := Lib.hid (show I 0 = s0 by rw [← hI]; rfl)
  have HIL := Lib.hid (show ∀ k, (I k).length = zs.length by intro k; rw [← hI, itO_len]; exact hs0l)
  have HIS := Lib.hid (show ∀ k, I (k + 1) = runO A (X, Y, (U : Int), (V : Int)) zs (I k) (opsY A zs X Y U V) by
    intro k
    rw [← hI]
    show rndO A (X, Y, (U : Int), (V : Int)) zs _ = _
    unfold rndO
    rw [show ((X, Y, (U : Int), (V : Int)) : BX).2.2.1.toNat = U by simp, show ((X, Y, (U : Int), (V : Int)) : BX).2.2.2.toNat = V by simp])
  have HIF := Lib.hid (show ∀ k, k ≤ zs.length → I (k + 1) = I k → I zs.length = I k by
    intro k hk h
    have := itO_fix (A := A) (b := (X, Y, (U : Int), (V : Int))) (zs := zs) (st := s0) (n := k) (by rw [← hI] at h; exact h) (zs.length - k)
    rw [hI, show k + (zs.length - k) = zs.length by omega] at this
    exact this)
  have HFO := Lib.hid hfo
  have HS0 := Lib.hid hs0
  have HBO := Lib.hid hx
  have hA := bl0 w
  have HRO := Lib.hid hr
  clear hr hz hon hc hfo hs0 hI hk0 hR hs0e hrt hs0l hx e1 e2 hm mm1 mm2 hal hn
  go_enter Tryd.func12, Tryd.ntmps12
  go_wp2_with fail
  have hw4 : FrI w A B X Y U V c a zs.length cap (filL zs.length 0) ((((w.alloc (.cells #[.int .i64 A, .int .i64 B, .slice a zs.length cap] 26)).alloc (.cells #[.int .i64 X, .int .i64 Y, .int .i64 U, .int .i64 V] 28)).alloc (.cells #[.int .i64 c.1, .int .i64 c.2] 30)).alloc (.cells (Array.replicate zs.length (Value.int .u64 0)) 36)) := by
    refine ⟨bl_al (bl_al (bl_al (bl_al hA _) _) _) _, by simp [go_sem], by simp [go_sem], by simp [go_sem], by simp [go_sem], by simp [go_sem], by simp [go_sem], by simp [go_sem], by simp [go_sem], by simp [go_sem], ?_⟩
    have := heap_alloc_new (((w.alloc (.cells #[.int .i64 A, .int .i64 B, .slice a zs.length cap] 26)).alloc (.cells #[.int .i64 X, .int .i64 Y, .int .i64 U, .int .i64 V] 28)).alloc (.cells #[.int .i64 c.1, .int .i64 c.2] 30)) (.cells (Array.replicate zs.length (Value.int .u64 0)) 36)
    simp only [World.size_alloc] at this
    rw [this, zerosU]
  have HW4 := Lib.hid hw4
  clear hw4 hmk hA
  go_loopw [8] (fun iv wr => ∃ i : Nat, i ≤ zs.length ∧ iv = .int .i64 i ∧ FrI w A B X Y U V c a zs.length cap (filL zs.length i) wr) (fun iv _ => zs.length - (intOf iv).toNat)
  case atStart => exact ⟨0, Nat.zero_le _, rfl, HW4.out⟩
  case round =>
    obtain ⟨i, hi, rfl, hI⟩ := hrel
    have hi0 : (0 : Int) ≤ (i : Int) := by omega
    by_cases hlt : i < zs.length
    · have hlt2 : (i : Int) < (zs.length : Int) := by omega
      obtain ⟨t0, t1⟩ := hI.at (show i < (filL zs.length i).length by rw [filL_len hi]; exact hlt)
      have hI2 := hI.set i 18446744073709551615
      rw [filL_set hlt] at hI2
      have zt := blk_lt t0
      have HII := Lib.hid hI2
      clear hI hI2
      go_wp2
      go_roundw
      case rel => exact ⟨i + 1, by omega, by go_num, by first | exact HII.out | exact HII.out.below (bl_dr (bl0 _))⟩
      case measure => simp [intOf]; omega
    · obtain rfl : i = zs.length := by omega
      have hge : ¬ (zs.length : Int) < (zs.length : Int) := by omega
      rw [filL_all] at hI
      have hA := hI.bel
      have f0 := hI.f0
      have f1 := hI.f1
      have f2 := hI.f2
      have s0' := hI.s0
      have s1' := hI.s1
      have HR2 := Lib.hid (HRO.out.below hI.bel)
      have zf0 := blk_lt f0
      have zs0' := blk_lt s0'
      go_wp2_with fail
      refine (HCS.out _ HR2.out).mono ?_
      rintro e w5 ⟨rfl, hb⟩
      replace hI := hI.below hb
      replace f0 := cell_later hb f0
      replace s0' := cell_later hb s0'
      replace s1' := cell_later hb s1'
      clear hb f1 f2 zf0 zs0' hA
      by_cases hk0 : k0 = 0
      · subst hk0
        have hf := HFO.out
        rw [if_pos rfl] at hf
        subst hf
        have HRU := Lib.hid hI.rowU
        have hA := hI.bel
        clear hI f0 s0' s1'
        go_wp2
        go_ret
        exact ⟨_, rfl, HRU.out, hA⟩
      · have hf := HFO.out
        rw [if_neg hk0] at hf
        have hk1 : (k0 == 0) = false := by rw [beq_eq_false_iff_ne]; exact hk0
        have HF2 := Lib.hid hf
        obtain ⟨t0, t1⟩ := hI.at (show numN A c < (List.replicate zs.length (18446744073709551615 : Int)).length by simpa using hsl)
        have hI2 := hI.set (numN A c) 0
        rw [← HS0.out, ← HI0.out] at hI2
        have zt := blk_lt t0
        have zf0 := blk_lt f0
        have zs0' := blk_lt s0'
        have HII := Lib.hid hI2
        have hsz := hI.size
        generalize hnm : numN A c = si at *
        clear hI hI2 hf hk0 hnm
        go_wp2_with fail
        go_loopw [9, 10, 11, 12, 13, 14, 15] (fun nv _ _ _ _ _ _ wr => ∃ k : Nat, k ≤ zs.length ∧ nv = .int .i64 k ∧ FrI w A B X Y U V c a zs.length cap (I k) wr) (fun nv _ _ _ _ _ _ _ => zs.length - (intOf nv).toNat)
        case atStart => exact ⟨0, Nat.zero_le _, rfl, by first | exact HII.out | exact HII.out.below (bl_dr (bl0 _))⟩
        case round =>
          clear t0 t1 zt zf0 zs0' f0 s0' s1' hsz
          obtain ⟨k, hk, rfl, hI⟩ := hrel
          have hk0 : (0 : Int) ≤ (k : Int) := by omega
          by_cases hlk : k < zs.length
          · have hlk2 : (k : Int) < (zs.length : Int) := by omega
            have HIK := Lib.hid hI
            have x1' := hI.x1
            have zx := blk_lt x1'
            obtain ⟨st, hst⟩ : ∃ st, I k = st := ⟨_, rfl⟩
            have hstl : st.length = zs.length := by rw [← hst]; exact HIL.out k
            have HSK := Lib.hid (HIS.out k)
            rw [hst] at HSK HIK
            have hstk := hst
            obtain ⟨D, hD⟩ : ∃ D : Nat → List Int, D = fun j => runO A (X, Y, (U : Int), (V : Int)) zs st (opsY A zs X Y U j) := ⟨_, rfl⟩
            have HD0 := Lib.hid (show D 0 = st by rw [hD]; rfl)
            have HDV := Lib.hid (show I (k + 1) = D V by rw [hD]; exact HSK.out)
            have HDS := Lib.hid (show ∀ j, D (j + 1) = runO A (X, Y, (U : Int), (V : Int)) zs (D j) (opsX A zs X (Y + (j : Nat)) U) by intro j; rw [hD]; show runO _ _ _ _ _ = runO _ _ _ (runO _ _ _ _ _) _; rw [← runO_app, opsY_succ])
            have HDL := Lib.hid (show ∀ j, (D j).length = zs.length by intro j; rw [hD]; show (runO _ _ _ _ _).length = _; rw [runO_len]; exact hstl)
            clear hI hD hst
            go_wp2_with fail
            go_loopw [10, 11, 12, 13, 14, 15] (fun tv yv _ _ _ _ wr => ∃ (j : Nat) (t : Bool), j ≤ V ∧ yv = .int .i64 (Y + j) ∧ tv = .bool t ∧ (t = false → D j = st) ∧ FrI w A B X Y U V c a zs.length cap (D j) wr) (fun _ yv _ _ _ _ _ => V - (intOf yv - Y).toNat)
            case atStart => exact ⟨0, false, Nat.zero_le _, by simp, rfl, fun _ => HD0.out, by rw [HD0.out]; first | exact HIK.out | exact HIK.out.below (bl_dr (bl0 _))⟩
            case round =>
              clear x1' zx
              obtain ⟨j, t, hj, rfl, rfl, htj, hI⟩ := hrel
              have x1' := hI.x1
              have x3' := hI.x3
              have zx := blk_lt x1'
              by_cases hlj : j < V
              · have hlj2 : Y + (j : Int) < Y + (V : Int) := by omega
                have hyw : IntKind.i64.wrap (Y + (j : Int) + 1) = Y + ((j + 1 : Nat) : Int) := by rw [IntWalk.i64_in _ (by omega)]; omega
                have x0' := hI.x0
                have HIJ := Lib.hid hI
                have HTJ := Lib.hid htj
                have HDJ := Lib.hid (HDS.out j)
                obtain ⟨y, hy⟩ : ∃ y, Y + (j : Int) = y := ⟨_, rfl⟩
                have hy0 : 0 ≤ y ∧ y ≤ 255 := by omega
                have hyY : Y ≤ y ∧ y < Y + V := by omega
                rw [hy] at hyw HDJ
                obtain ⟨sj, hsj⟩ : ∃ sj, D j = sj := ⟨_, rfl⟩
                have hsjl : sj.length = zs.length := by rw [← hsj]; exact HDL.out j
                rw [hsj] at HIJ HTJ HDJ
                obtain ⟨E, hE⟩ : ∃ E : Nat → List Int, E = fun i => runO A (X, Y, (U : Int), (V : Int)) zs sj (opsX A zs X y i) := ⟨_, rfl⟩
                have HE0 := Lib.hid (show E 0 = sj by rw [hE]; rfl)
                have HEU := Lib.hid (show D (j + 1) = E U by rw [hE]; exact HDJ.out)
                have HES := Lib.hid (show ∀ i, E (i + 1) = runO A (X, Y, (U : Int), (V : Int)) zs (E i) (opsC A zs (X + (i : Nat), y)) by intro i; rw [hE]; show runO _ _ _ _ _ = runO _ _ _ (runO _ _ _ _ _) _; rw [← runO_app, opsX_succ])
                have HEL := Lib.hid (show ∀ i, (E i).length = zs.length by intro i; rw [hE]; show (runO _ _ _ _ _).length = _; rw [runO_len]; exact hsjl)
                clear hI htj hsj hE
                rw [hy] at hlj2 ⊢
                have HYJ := Lib.hid hy
                clear hy
                go_wp2_with fail
                go_loopw [10, 12, 13, 14, 15] (fun tv xv _ _ _ wr => ∃ (i : Nat) (t : Bool), i ≤ U ∧ xv = .int .i64 (X + i) ∧ tv = .bool t ∧ (t = false → E i = st) ∧ FrI w A B X Y U V c a zs.length cap (E i) wr) (fun _ xv _ _ _ _ => U - (intOf xv - X).toNat)
                case atStart => exact ⟨0, t, Nat.zero_le _, by simp, rfl, fun h => by rw [HE0.out]; exact HTJ.out h, by rw [HE0.out]; first | exact HIJ.out | exact HIJ.out.below (bl_dr (bl0 _))⟩
                case round =>
                  clear x0' x1' x3' zx
                  obtain ⟨i, t, hi, rfl, rfl, hti, hI⟩ := hrel
                  have x0' := hI.x0
                  have x2' := hI.x2
                  have zx := blk_lt x0'
                  by_cases hli : i < U
                  · have hli2 : X + (i : Int) < X + (U : Int) := by omega
                    have hxw : IntKind.i64.wrap (X + (i : Int) + 1) = X + ((i + 1 : Nat) : Int) := by rw [IntWalk.i64_in _ (by omega)]; omega
                    have HEI := Lib.hid (HES.out i)
                    have hXI : X ≤ X + (i : Int) ∧ 0 ≤ X + (i : Int) ∧ X + (i : Int) ≤ 255 := by omega
                    have hcb : inBx (X, Y, (U : Int), (V : Int)) (X + (i : Int), y) = true := (HIN.out _).2 ⟨hXI.1, hli2, hyY.1, hyY.2⟩
                    obtain ⟨x, hx⟩ : ∃ x, X + (i : Int) = x := ⟨_, rfl⟩
                    have HXI := Lib.hid hx
                    rw [hx] at hli2 hxw HEI hXI hcb ⊢
                    obtain ⟨hcl, hcw1, hcw2, hcon⟩ := HNU.out (x, y) hcb
                    simp only at hcw1 hcw2
                    have hpl : plainB x y = true := plainB_iff.2 (by omega)
                    have HCC := Lib.hid (HCO.out (x, y) hcon)
                    simp only at HCC
                    have hoc : opsC A zs (x, y) = if zs.getD (numN A (x, y)) 0 = 0 then [] else opsD (x, y) 4 := rfl
                    obtain ⟨si2, hsi⟩ : ∃ si2, E i = si2 := ⟨_, rfl⟩
                    have hsil : si2.length = zs.length := by rw [← hsi]; exact HEL.out i
                    rw [hsi] at hI hti HEI
                    have HTI := Lib.hid hti
                    have HRL : ∀ (s : List Int) (d : Nat), rlx A (X, Y, (U : Int), (V : Int)) zs s ((x, y), d) = if inBx (X, Y, (U : Int), (V : Int)) (stepI (x, y) (d : Int)) = true ∧ atD s (numN A (stepI (x, y) (d : Int))) ≠ 18446744073709551615 ∧ IntKind.u64.wrap (atD s (numN A (stepI (x, y) (d : Int))) + zs.getD (numN A (x, y)) 0) < atD s (numN A (x, y)) then s.set (numN A (x, y)) (IntKind.u64.wrap (atD s (numN A (stepI (x, y) (d : Int))) + zs.getD (numN A (x, y)) 0)) else s := fun _ _ => rfl
                    have HRL := Lib.hid HRL
                    obtain ⟨kc, hkc⟩ : ∃ kc, zs.getD (numN A (x, y)) 0 = kc := ⟨_, rfl⟩
                    rw [hkc] at HCC hoc HRL
                    obtain ⟨ci, hci⟩ : ∃ ci, numN A (x, y) = ci := ⟨_, rfl⟩
                    rw [hci] at hcl hcw2 HRL
                    have hci0 : (0 : Int) ≤ (ci : Int) := by omega
                    have hci2 : (ci : Int) < (zs.length : Int) := by omega
                    have hA := hI.bel
                    have f0 := hI.f0; have f1 := hI.f1; have f2 := hI.f2
                    have zf0 := blk_lt f0
                    have HRW0 := Lib.hid (fun W (h : Below wr.heap.size wr W) => (HRO.out.below (bl_tr hI.bel h)))
                    have hIsz := hI.size
                    clear hti hsi hx hkc hci hcb hcon
                    go_wp2_with fail
                    have hAl := bl_al (bl0 wr) (.cells #[.int .i64 x, .int .i64 y] 30)
                    refine (HCC.out _ (HRW0.out _ (by first | exact bl_st (bl_st (bl_al (bl0 wr) _) (Nat.le_refl _) _) (Nat.le_refl _) _ | exact hAl))).mono ?_
                    rintro e w5 ⟨rfl, hb⟩
                    have p0 := cell_later hb (v := .int .i64 x) (a := ⟨wr.heap.size, 0, none⟩) (by simp [go_sem])
                    have p1 := cell_later hb (v := .int .i64 y) (a := ⟨wr.heap.size, 1, none⟩) (by simp [go_sem])
                    have hB1 : Below wr.heap.size wr w5 := by first | exact bl_tr (bl_al (bl0 wr) _) hb | exact bl_tr (bl_st (bl_st (bl_al (bl0 wr) _) (Nat.le_refl _) _) (Nat.le_refl _) _) hb
                    replace hI := hI.below hB1
                    have HII5 := Lib.hid hI
                    have zp0 := blk_lt p0
                    clear hb hB1 f0 f1 f2 zf0 hA x0' x2' zx hAl
                    by_cases hk0 : kc = 0
                    · subst hk0
                      rw [hoc, if_pos rfl, runO_nil] at HEI
                      clear hI p0 p1 zp0
                      go_wp2
                      go_roundw
                      case rel => exact ⟨i + 1, t, by omega, by go_num, rfl, fun h => by rw [HEI.out]; exact HTI.out h, by rw [HEI.out]; exact HII5.out⟩
                      case measure => simp [intOf]; have := HXI.out; omega
                    · have hk1 : (kc == 0) = false := by rw [beq_eq_false_iff_ne]; exact hk0
                      rw [hoc, if_neg hk0] at HEI
                      obtain ⟨G, hG⟩ : ∃ G : Nat → List Int, G = fun d => runO A (X, Y, (U : Int), (V : Int)) zs si2 (opsD (x, y) d) := ⟨_, rfl⟩
                      have HG0 := Lib.hid (show G 0 = si2 by rw [hG]; rfl)
                      have HG4 := Lib.hid (show E (i + 1) = G 4 by rw [hG]; exact HEI.out)
                      have HGS := Lib.hid (show ∀ d, G (d + 1) = rlx A (X, Y, (U : Int), (V : Int)) zs (G d) ((x, y), d) by intro d; rw [hG]; show runO _ _ _ _ _ = rlx _ _ _ (runO _ _ _ _ _) _; rw [opsD_succ, runO_snoc])
                      have HGL := Lib.hid (show ∀ d, (G d).length = zs.length by intro d; rw [hG]; show (runO _ _ _ _ _).length = _; rw [runO_len]; exact hsil)
                      have hcpn : wr.heap.size ≠ w.heap.size + 1 + 1 + 1 := by have := hIsz; omega
                      obtain ⟨cp, hcp⟩ : ∃ cp, wr.heap.size = cp := ⟨_, rfl⟩
                      have P0 := Lib.hid p0
                      have P1 := Lib.hid p1
                      rw [hcp] at hcpn P0 P1
                      have HRWW := Lib.hid (fun W (h : Below w.heap.size w W) => (HRO.out.below h))
                      have HCPE := Lib.hid hcp
                      clear hG hk0 hoc hI p0 p1 HRW0
                      go_wp2_with fail
                      clear hcp zp0
                      go_loopw [10, 14, 15] (fun tv dv _ wr => ∃ (d : Nat) (t : Bool), d ≤ 4 ∧ dv = .int .i64 d ∧ tv = .bool t ∧ (t = false → G d = st) ∧ FrI w A B X Y U V c a zs.length cap (G d) wr ∧ wr.cell? ⟨cp, 0, none⟩ = some (.int .i64 x) ∧ wr.cell? ⟨cp, 1, none⟩ = some (.int .i64 y)) (fun _ dv _ _ => 4 - (intOf dv).toNat)
                      case atStart => exact ⟨0, t, by omega, rfl, rfl, fun h => by rw [HG0.out]; exact HTI.out h, by rw [HG0.out]; first | exact HII5.out | exact HII5.out.below (bl_dr (bl0 _)), P0.out, P1.out⟩
                      case round =>
                        obtain ⟨d, t, hd, rfl, rfl, htd, hI, p0, p1⟩ := hrel
                        have hd0 : (0 : Int) ≤ (d : Int) := by omega
                        by_cases hld : d < 4
                        · have hld2 : (d : Int) < 4 := by omega
                          have hdw : IntKind.i64.wrap ((d : Int) + 1) = ((d + 1 : Nat) : Int) := by rw [IntWalk.i64_in _ (by omega)]; omega
                          have HST2 := Lib.hid (HST.out x y d hpl hld)
                          have HGD := Lib.hid (HGS.out d)
                          rw [HRL.out] at HGD
                          have hM := step_pl (x := x) (y := y) (d := (d : Int)) (by omega) (by omega) (by omega) (by omega) (by omega) (by omega)
                          obtain ⟨M, hME⟩ : ∃ M, stepI (x, y) (d : Int) = M := ⟨_, rfl⟩
                          rw [hME] at HST2 HGD hM
                          have HHB := Lib.hid (HHA.out M (by unfold wf64; omega))
                          obtain ⟨sd, hsd⟩ : ∃ sd, G d = sd := ⟨_, rfl⟩
                          have hsdl : sd.length = zs.length := by rw [← hsd]; exact HGL.out d
                          rw [hsd] at htd hI HGD
                          have HCL := Lib.hid (show ci < sd.length by rw [hsdl]; exact hcl)
                          obtain ⟨u, hu⟩ : ∃ u, atD sd ci = u := ⟨_, rfl⟩
                          have hku := (hI.at HCL.out).1
                          rw [hu] at HGD hku
                          have HID := Lib.hid hI
                          have HTD := Lib.hid htd
                          have zp0 := blk_lt p0
                          clear hME hsd hu hI htd
                          go_wp2_with fail
                          refine (HST2.out _).mono ?_
                          rintro e w8 ⟨rfl, hb8⟩
                          go_upto_region 25 with fail
                          obtain ⟨W1, hW1⟩ : ∃ W1, w8.alloc (.cells #[.int .i64 M.1, .int .i64 M.2] 30) = W1 := ⟨_, rfl⟩
                          have m0 : W1.cell? ⟨w8.heap.size, 0, none⟩ = some (.int .i64 M.1) := by rw [← hW1]; simp [go_sem]
                          have m1 : W1.cell? ⟨w8.heap.size, 1, none⟩ = some (.int .i64 M.2) := by rw [← hW1]; simp [go_sem]
                          have hb : Below wr.heap.size wr W1 := by rw [← hW1]; exact bl_al (bl_tr (bl0 _) hb8) _
                          rw [hW1]
                          obtain ⟨mp, hmp⟩ : ∃ mp, w8.heap.size = mp := ⟨_, rfl⟩
                          rw [hmp] at m0 m1 ⊢
                          clear hW1 hmp hb8
                          have hI := HID.out.below hb
                          have kp0 := cell_later hb p0
                          have kp1 := cell_later hb p1
                          replace hku := cell_later hb hku
                          have kf0 := hI.f0; have kf1 := hI.f1; have kf2 := hI.f2; have kx0 := hI.x0; have kx1 := hI.x1; have kx2 := hI.x2; have kx3 := hI.x3
                          have km0 := m0; have km1 := m1; have ku := hku
                          have HI1 := Lib.hid hI
                          have HRW := Lib.hid (fun W (h : Below W1.heap.size W1 W) => HRWW.out W (bl_tr hI.bel h))
                          have zk0 := blk_lt kp0; have zk1 := blk_lt kf0; have zk2 := blk_lt kx0; have zk3 := blk_lt km0; have zk4 := blk_lt ku
                          clear hI hb m0 m1 hku p0 p1 zp0
                          cases hin : inBx (X, Y, (U : Int), (V : Int)) M
                          · rw [hin] at HHB
                            have HEQ := Lib.hid (show G (d + 1) = sd by rw [HGD.out, if_neg (fun h => by rw [hin] at h; cases h.1)])
                            clear hin
                            have hB := bl_dr (bl0 W1)
                            have hS : (fun W9 : World => W9.cell? ⟨w.heap.size, 0, none⟩ = some (.int .i64 A) ∧ W9.cell? ⟨w.heap.size, 1, none⟩ = some (.int .i64 B) ∧ W9.cell? ⟨w.heap.size, 2, none⟩ = some (.slice a zs.length cap) ∧ W9.cell? ⟨w.heap.size + 1, 0, none⟩ = some (.int .i64 X) ∧ W9.cell? ⟨w.heap.size + 1, 1, none⟩ = some (.int .i64 Y) ∧ W9.cell? ⟨w.heap.size + 1, 2, none⟩ = some (.int .i64 U) ∧ W9.cell? ⟨w.heap.size + 1, 3, none⟩ = some (.int .i64 V) ∧ W9.cell? ⟨cp, 0, none⟩ = some (.int .i64 x) ∧ W9.cell? ⟨cp, 1, none⟩ = some (.int .i64 y) ∧ W9.cell? ⟨mp, 0, none⟩ = some (.int .i64 M.1) ∧ W9.cell? ⟨mp, 1, none⟩ = some (.int .i64 M.2) ∧ W9.cell? ⟨w.heap.size + 1 + 1 + 1, ci, none⟩ = some (.int .u64 u)) W1.drew := ⟨cell_later hB kf0, cell_later hB kf1, cell_later hB kf2, cell_later hB kx0, cell_later hB kx1, cell_later hB kx2, cell_later hB kx3, cell_later hB kp0, cell_later hB kp1, cell_later hB km0, cell_later hB km1, cell_later hB ku⟩
                            refine (wpIn_wide (n := 11)).1 ?_
                            refine ordS_begin (S := (fun W9 : World => W9.cell? ⟨w.heap.size, 0, none⟩ = some (.int .i64 A) ∧ W9.cell? ⟨w.heap.size, 1, none⟩ = some (.int .i64 B) ∧ W9.cell? ⟨w.heap.size, 2, none⟩ = some (.slice a zs.length cap) ∧ W9.cell? ⟨w.heap.size + 1, 0, none⟩ = some (.int .i64 X) ∧ W9.cell? ⟨w.heap.size + 1, 1, none⟩ = some (.int .i64 Y) ∧ W9.cell? ⟨w.heap.size + 1, 2, none⟩ = some (.int .i64 U) ∧ W9.cell? ⟨w.heap.size + 1, 3, none⟩ = some (.int .i64 V) ∧ W9.cell? ⟨cp, 0, none⟩ = some (.int .i64 x) ∧ W9.cell? ⟨cp, 1, none⟩ = some (.int .i64 y) ∧ W9.cell? ⟨mp, 0, none⟩ = some (.int .i64 M.1) ∧ W9.cell? ⟨mp, 1, none⟩ = some (.int .i64 M.2) ∧ W9.cell? ⟨w.heap.size + 1 + 1 + 1, ci, none⟩ = some (.int .u64 u))) (by kernel_rfl) hS (fun hH => ?_)
                            refine' ordS_take (i := 0) (oi := { dst := some 87, op := Op.load 28 (Operand.tmp 4), type := 28, pos := _, after := #[], guard := none }) (v := _) rfl (by kernel_rfl) (by kernel_rfl) (by kernel_rfl) (by kernel_rfl) (fun _ _ _ h => h) (by assumption) (Or.inl ⟨by rfl, ?hy204⟩) (fun _ => rfl) ?rest204
                            case hy204 => (intro w hSw; (try dsimp only at hSw); go_simp; try with_reducible rfl)
                            try simp only [Act.put, List.setIfInBounds_toArray, List.set_cons_zero, List.set_cons_succ]
                            refine' ordS_take (i := 1) (oi := { dst := some 88, op := Op.load 30 (Operand.tmp 15), type := 30, pos := _, after := #[], guard := none }) (v := _) rfl (by kernel_rfl) (by kernel_rfl) (by kernel_rfl) (by kernel_rfl) (fun _ _ _ h => h) (by assumption) (Or.inl ⟨by rfl, ?hy205⟩) (fun _ => rfl) ?rest205
                            case hy205 => (intro w hSw; (try dsimp only at hSw); go_simp; try with_reducible rfl)
                            try simp only [Act.put, List.setIfInBounds_toArray, List.set_cons_zero, List.set_cons_succ]
                            obtain ⟨W2, hW2⟩ : ∃ W2, W1.drew = W2 := ⟨_, rfl⟩
                            rw [hW2] at hB hS
                            rw [hW2]
                            clear hW2 hH
                            refine ordS_one (i := 2) (o := { dst := some 89, op := Op.call { callee := Callee.value (Operand.func 11), args := #[Operand.tmp 87, Operand.tmp 88], argTypes := #[28, 30] }, type := 4, pos := _, after := #[{ on := 0, ground := Ground.data }, { on := 1, ground := Ground.data }], guard := none }) (by kernel_rfl) rfl (by rfl) (fun K hK => ?_)
                            go_simp
                            refine ⟨trivial, ?_⟩
                            with_reducible refine (callsIn_wide.2 (HHB.out _)).mono ?_
                            rintro e W3 ⟨rfl, hbW3⟩
                            replace hB := bl_tr hB hbW3
                            have hS3 : (fun W9 : World => W9.cell? ⟨w.heap.size, 0, none⟩ = some (.int .i64 A) ∧ W9.cell? ⟨w.heap.size, 1, none⟩ = some (.int .i64 B) ∧ W9.cell? ⟨w.heap.size, 2, none⟩ = some (.slice a zs.length cap) ∧ W9.cell? ⟨w.heap.size + 1, 0, none⟩ = some (.int .i64 X) ∧ W9.cell? ⟨w.heap.size + 1, 1, none⟩ = some (.int .i64 Y) ∧ W9.cell? ⟨w.heap.size + 1, 2, none⟩ = some (.int .i64 U) ∧ W9.cell? ⟨w.heap.size + 1, 3, none⟩ = some (.int .i64 V) ∧ W9.cell? ⟨cp, 0, none⟩ = some (.int .i64 x) ∧ W9.cell? ⟨cp, 1, none⟩ = some (.int .i64 y) ∧ W9.cell? ⟨mp, 0, none⟩ = some (.int .i64 M.1) ∧ W9.cell? ⟨mp, 1, none⟩ = some (.int .i64 M.2) ∧ W9.cell? ⟨w.heap.size + 1 + 1 + 1, ci, none⟩ = some (.int .u64 u)) W3 := ⟨cell_later hbW3 hS.1, cell_later hbW3 hS.2.1, cell_later hbW3 hS.2.2.1, cell_later hbW3 hS.2.2.2.1, cell_later hbW3 hS.2.2.2.2.1, cell_later hbW3 hS.2.2.2.2.2.1, cell_later hbW3 hS.2.2.2.2.2.2.1, cell_later hbW3 hS.2.2.2.2.2.2.2.1, cell_later hbW3 hS.2.2.2.2.2.2.2.2.1, cell_later hbW3 hS.2.2.2.2.2.2.2.2.2.1, cell_later hbW3 hS.2.2.2.2.2.2.2.2.2.2.1, cell_later hbW3 hS.2.2.2.2.2.2.2.2.2.2.2⟩
                            refine hK _ _ hS3 ?_
                            clear hK K
                            try simp only [Act.put, List.setIfInBounds_toArray, List.set_cons_zero, List.set_cons_succ]
                            refine' ordS_take (i := 3) (oi := { dst := some 90, op := Op.move (Operand.tmp 89), type := 4, pos := _, after := #[{ on := 2, ground := Ground.data }, { on := 2, ground := Ground.chain }], guard := none }) (v := _) rfl (by kernel_rfl) (by kernel_rfl) (by kernel_rfl) (by kernel_rfl) (fun _ _ _ h => h) (by assumption) (Or.inl ⟨by rfl, ?hy206⟩) (fun _ => rfl) ?rest206
                            case hy206 => (intro w hSw; (try dsimp only at hSw); go_simp; try with_reducible rfl)
                            try simp only [Act.put, List.setIfInBounds_toArray, List.set_cons_zero, List.set_cons_succ]
                            refine ordS_take (i := 4) (oi := { dst := some 91, op := Op.move (Operand.tmp 7), type := 42, pos := _, after := #[{ on := 3, ground := Ground.guard }], guard := some (3, true) }) (v := undef) rfl (by kernel_rfl) (by kernel_rfl) (by kernel_rfl) (by kernel_rfl) (fun _ _ _ h => h) (by assumption) (Or.inr ⟨by rfl, rfl⟩) (fun _ => rfl) ?_
                            try simp only [Act.put, List.setIfInBounds_toArray, List.set_cons_zero, List.set_cons_succ]
                            refine ordS_take (i := 5) (oi := { dst := some 92, op := Op.fieldAddr 30 (Operand.tmp 15) 1, type := 0, pos := _, after := #[{ on := 3, ground := Ground.guard }], guard := some (3, true) }) (v := undef) rfl (by kernel_rfl) (by kernel_rfl) (by kernel_rfl) (by kernel_rfl) (fun _ _ _ h => h) (by assumption) (Or.inr ⟨by rfl, rfl⟩) (fun _ => rfl) ?_
                            try simp only [Act.put, List.setIfInBounds_toArray, List.set_cons_zero, List.set_cons_succ]
                            refine ordS_take (i := 6) (oi := { dst := some 93, op := Op.load 3 (Operand.tmp 92), type := 3, pos := _, after := #[{ on := 5, ground := Ground.data }, { on := 3, ground := Ground.guard }], guard := some (3, true) }) (v := undef) rfl (by kernel_rfl) (by kernel_rfl) (by kernel_rfl) (by kernel_rfl) (fun _ _ _ h => h) (by assumption) (Or.inr ⟨by rfl, rfl⟩) (fun _ => rfl) ?_
                            try simp only [Act.put, List.setIfInBounds_toArray, List.set_cons_zero, List.set_cons_succ]
                            refine ordS_take (i := 7) (oi := { dst := some 94, op := Op.fieldAddr 26 (Operand.tmp 3) 0, type := 0, pos := _, after := #[{ on := 3, ground := Ground.guard }], guard := some (3, true) }) (v := undef) rfl (by kernel_rfl) (by kernel_rfl) (by kernel_rfl) (by kernel_rfl) (fun _ _ _ h => h) (by assumption) (Or.inr ⟨by rfl, rfl⟩) (fun _ => rfl) ?_
                            try simp only [Act.put, List.setIfInBounds_toArray, List.set_cons_zero, List.set_cons_succ]
                            refine ordS_take (i := 8) (oi := { dst := some 95, op := Op.fieldAddr 23 (Operand.tmp 94) 0, type := 0, pos := _, after := #[{ on := 7, ground := Ground.data }, { on := 3, ground := Ground.guard }], guard := some (3, true) }) (v := undef) rfl (by kernel_rfl) (by kernel_rfl) (by kernel_rfl) (by kernel_rfl) (fun _ _ _ h => h) (by assumption) (Or.inr ⟨by rfl, rfl⟩) (fun _ => rfl) ?_
                            try simp only [Act.put, List.setIfInBounds_toArray, List.set_cons_zero, List.set_cons_succ]
                            refine ordS_take (i := 9) (oi := { dst := some 96, op := Op.load 3 (Operand.tmp 95), type := 3, pos := _, after := #[{ on := 8, ground := Ground.data }, { on := 3, ground := Ground.guard }], guard := some (3, true) }) (v := undef) rfl (by kernel_rfl) (by kernel_rfl) (by kernel_rfl) (by kernel_rfl) (fun _ _ _ h => h) (by assumption) (Or.inr ⟨by rfl, rfl⟩) (fun _ => rfl) ?_
                            try simp only [Act.put, List.setIfInBounds_toArray, List.set_cons_zero, List.set_cons_succ]
                            refine ordS_take (i := 10) (oi := { dst := some 97, op := Op.binOp BinOp.mul 3 (Operand.tmp 93) (Operand.tmp 96) 3, type := 3, pos := _, after := #[{ on := 6, ground := Ground.data }, { on := 9, ground := Ground.data }, { on := 3, ground := Ground.guard }], guard := some (3, true) }) (v := undef) rfl (by kernel_rfl) (by kernel_rfl) (by kernel_rfl) (by kernel_rfl) (fun _ _ _ h => h) (by assumption) (Or.inr ⟨by rfl, rfl⟩) (fun _ => rfl) ?_
                            try simp only [Act.put, List.setIfInBounds_toArray, List.set_cons_zero, List.set_cons_succ]
                            refine ordS_take (i := 11) (oi := { dst := some 98, op := Op.fieldAddr 30 (Operand.tmp 15) 0, type := 0, pos := _, after := #[{ on := 3, ground := Ground.guard }], guard := some (3, true) }) (v := undef) rfl (by kernel_rfl) (by kernel_rfl) (by kernel_rfl) (by kernel_rfl) (fun _ _ _ h => h) (by assumption) (Or.inr ⟨by rfl, rfl⟩) (fun _ => rfl) ?_
                            try simp only [Act.put, List.setIfInBounds_toArray, List.set_cons_zero, List.set_cons_succ]
                            refine ordS_take (i := 12) (oi := { dst := some 99, op := Op.load 3 (Operand.tmp 98), type := 3, pos := _, after := #[{ on := 11, ground := Ground.data }, { on := 3, ground := Ground.guard }], guard := some (3, true) }) (v := undef) rfl (by kernel_rfl) (by kernel_rfl) (by kernel_rfl) (by kernel_rfl) (fun _ _ _ h => h) (by assumption) (Or.inr ⟨by rfl, rfl⟩) (fun _ => rfl) ?_
                            try simp only [Act.put, List.setIfInBounds_toArray, List.set_cons_zero, List.set_cons_succ]
                            refine ordS_take (i := 13) (oi := { dst := some 100, op := Op.binOp BinOp.add 3 (Operand.tmp 97) (Operand.tmp 99) 3, type := 3, pos := _, after := #[{ on := 10, ground := Ground.data }, { on := 12, ground := Ground.data }, { on := 3, ground := Ground.guard }], guard := some (3, true) }) (v := undef) rfl (by kernel_rfl) (by kernel_rfl) (by kernel_rfl) (by kernel_rfl) (fun _ _ _ h => h) (by assumption) (Or.inr ⟨by rfl, rfl⟩) (fun _ => rfl) ?_
                            try simp only [Act.put, List.setIfInBounds_toArray, List.set_cons_zero, List.set_cons_succ]
                            refine ordS_take (i := 14) (oi := { dst := some 101, op := Op.indexAddr 42 (Operand.tmp 91) (Operand.tmp 100), type := 0, pos := _, after := #[{ on := 4, ground := Ground.data }, { on := 13, ground := Ground.data }, { on := 3, ground := Ground.guard }], guard := some (3, true) }) (v := undef) rfl (by kernel_rfl) (by kernel_rfl) (by kernel_rfl) (by kernel_rfl) (fun _ _ _ h => h) (by assumption) (Or.inr ⟨by rfl, rfl⟩) (fun _ => rfl) ?_
                            try simp only [Act.put, List.setIfInBounds_toArray, List.set_cons_zero, List.set_cons_succ]
                            refine ordS_take (i := 15) (oi := { dst := some 102, op := Op.load 36 (Operand.tmp 101), type := 36, pos := _, after := #[{ on := 14, ground := Ground.data }, { on := 3, ground := Ground.guard }], guard := some (3, true) }) (v := undef) rfl (by kernel_rfl) (by kernel_rfl) (by kernel_rfl) (by kernel_rfl) (fun _ _ _ h => h) (by assumption) (Or.inr ⟨by rfl, rfl⟩) (fun _ => rfl) ?_
                            try simp only [Act.put, List.setIfInBounds_toArray, List.set_cons_zero, List.set_cons_succ]
                            refine ordS_take (i := 16) (oi := { dst := some 103, op := Op.binOp BinOp.neq 36 (Operand.tmp 102) (Operand.const (Value.int IntKind.u64 18446744073709551615)) 36, type := 4, pos := _, after := #[{ on := 15, ground := Ground.data }, { on := 3, ground := Ground.guard }], guard := some (3, true) }) (v := undef) rfl (by kernel_rfl) (by kernel_rfl) (by kernel_rfl) (by kernel_rfl) (fun _ _ _ h => h) (by assumption) (Or.inr ⟨by rfl, rfl⟩) (fun _ => rfl) ?_
                            try simp only [Act.put, List.setIfInBounds_toArray, List.set_cons_zero, List.set_cons_succ]
                            refine' ordS_take (i := 17) (oi := { dst := some 104, op := Op.pick (Operand.tmp 90) (Operand.tmp 103) (Operand.const (Value.bool false)), type := 4, pos := _, after := #[{ on := 3, ground := Ground.data }, { on := 16, ground := Ground.data }], guard := none }) (v := _) rfl (by kernel_rfl) (by kernel_rfl) (by kernel_rfl) (by kernel_rfl) (fun _ _ _ h => h) (by assumption) (Or.inl ⟨by rfl, ?hy220⟩) (fun _ => rfl) ?rest220
                            case hy220 => (intro w hSw; (try dsimp only at hSw); go_simp; try with_reducible rfl)
                            try simp only [Act.put, List.setIfInBounds_toArray, List.set_cons_zero, List.set_cons_succ]
                            refine' ordS_take (i := 18) (oi := { dst := some 105, op := Op.move (Operand.tmp 104), type := 4, pos := _, after := #[{ on := 17, ground := Ground.data }, { on := 3, ground := Ground.chain }], guard := none }) (v := _) rfl (by kernel_rfl) (by kernel_rfl) (by kernel_rfl) (by kernel_rfl) (fun _ _ _ h => h) (by assumption) (Or.inl ⟨by rfl, ?hy221⟩) (fun _ => rfl) ?rest221
                            case hy221 => (intro w hSw; (try dsimp only at hSw); go_simp; try with_reducible rfl)
                            try simp only [Act.put, List.setIfInBounds_toArray, List.set_cons_zero, List.set_cons_succ]
                            refine ordS_take (i := 19) (oi := { dst := some 106, op := Op.move (Operand.tmp 7), type := 42, pos := _, after := #[{ on := 18, ground := Ground.guard }], guard := some (18, true) }) (v := undef) rfl (by kernel_rfl) (by kernel_rfl) (by kernel_rfl) (by kernel_rfl) (fun _ _ _ h => h) (by assumption) (Or.inr ⟨by rfl, rfl⟩) (fun _ => rfl) ?_
                            try simp only [Act.put, List.setIfInBounds_toArray, List.set_cons_zero, List.set_cons_succ]
                            refine ordS_take (i := 20) (oi := { dst := some 107, op := Op.fieldAddr 30 (Operand.tmp 15) 1, type := 0, pos := _, after := #[{ on := 18, ground := Ground.guard }], guard := some (18, true) }) (v := undef) rfl (by kernel_rfl) (by kernel_rfl) (by kernel_rfl) (by kernel_rfl) (fun _ _ _ h => h) (by assumption) (Or.inr ⟨by rfl, rfl⟩) (fun _ => rfl) ?_
                            try simp only [Act.put, List.setIfInBounds_toArray, List.set_cons_zero, List.set_cons_succ]
                            refine ordS_take (i := 21) (oi := { dst := some 108, op := Op.load 3 (Operand.tmp 107), type := 3, pos := _, after := #[{ on := 20, ground := Ground.data }, { on := 18, ground := Ground.guard }], guard := some (18, true) }) (v := undef) rfl (by kernel_rfl) (by kernel_rfl) (by kernel_rfl) (by kernel_rfl) (fun _ _ _ h => h) (by assumption) (Or.inr ⟨by rfl, rfl⟩) (fun _ => rfl) ?_
                            try simp only [Act.put, List.setIfInBounds_toArray, List.set_cons_zero, List.set_cons_succ]
                            refine ordS_take (i := 22) (oi := { dst := some 109, op := Op.fieldAddr 26 (Operand.tmp 3) 0, type := 0, pos := _, after := #[{ on := 18, ground := Ground.guard }], guard := some (18, true) }) (v := undef) rfl (by kernel_rfl) (by kernel_rfl) (by kernel_rfl) (by kernel_rfl) (fun _ _ _ h => h) (by assumption) (Or.inr ⟨by rfl, rfl⟩) (fun _ => rfl) ?_
                            try simp only [Act.put, List.setIfInBounds_toArray, List.set_cons_zero, List.set_cons_succ]
                            refine ordS_take (i := 23) (oi := { dst := some 110, op := Op.fieldAddr 23 (Operand.tmp 109) 0, type := 0, pos := _, after := #[{ on := 22, ground := Ground.data }, { on := 18, ground := Ground.guard }], guard := some (18, true) }) (v := undef) rfl (by kernel_rfl) (by kernel_rfl) (by kernel_rfl) (by kernel_rfl) (fun _ _ _ h => h) (by assumption) (Or.inr ⟨by rfl, rfl⟩) (fun _ => rfl) ?_
                            try simp only [Act.put, List.setIfInBounds_toArray, List.set_cons_zero, List.set_cons_succ]
                            refine ordS_take (i := 24) (oi := { dst := some 111, op := Op.load 3 (Operand.tmp 110), type := 3, pos := _, after := #[{ on := 23, ground := Ground.data }, { on := 18, ground := Ground.guard }], guard := some (18, true) }) (v := undef) rfl (by kernel_rfl) (by kernel_rfl) (by kernel_rfl) (by kernel_rfl) (fun _ _ _ h => h) (by assumption) (Or.inr ⟨by rfl, rfl⟩) (fun _ => rfl) ?_
                            try simp only [Act.put, List.setIfInBounds_toArray, List.set_cons_zero, List.set_cons_succ]
                            refine ordS_take (i := 25) (oi := { dst := some 112, op := Op.binOp BinOp.mul 3 (Operand.tmp 108) (Operand.tmp 111) 3, type := 3, pos := _, after := #[{ on := 21, ground := Ground.data }, { on := 24, ground := Ground.data }, { on := 18, ground := Ground.guard }], guard := some (18, true) }) (v := undef) rfl (by kernel_rfl) (by kernel_rfl) (by kernel_rfl) (by kernel_rfl) (fun _ _ _ h => h) (by assumption) (Or.inr ⟨by rfl, rfl⟩) (fun _ => rfl) ?_
                            try simp only [Act.put, List.setIfInBounds_toArray, List.set_cons_zero, List.set_cons_succ]
                            refine ordS_take (i := 26) (oi := { dst := some 113, op := Op.fieldAddr 30 (Operand.tmp 15) 0, type := 0, pos := _, after := #[{ on := 18, ground := Ground.guard }], guard := some (18, true) }) (v := undef) rfl (by kernel_rfl) (by kernel_rfl) (by kernel_rfl) (by kernel_rfl) (fun _ _ _ h => h) (by assumption) (Or.inr ⟨by rfl, rfl⟩) (fun _ => rfl) ?_
                            try simp only [Act.put, List.setIfInBounds_toArray, List.set_cons_zero, List.set_cons_succ]
                            refine ordS_take (i := 27) (oi := { dst := some 114, op := Op.load 3 (Operand.tmp 113), type := 3, pos := _, after := #[{ on := 26, ground := Ground.data }, { on := 18, ground := Ground.guard }], guard := some (18, true) }) (v := undef) rfl (by kernel_rfl) (by kernel_rfl) (by kernel_rfl) (by kernel_rfl) (fun _ _ _ h => h) (by assumption) (Or.inr ⟨by rfl, rfl⟩) (fun _ => rfl) ?_
                            try simp only [Act.put, List.setIfInBounds_toArray, List.set_cons_zero, List.set_cons_succ]
                            refine ordS_take (i := 28) (oi := { dst := some 115, op := Op.binOp BinOp.add 3 (Operand.tmp 112) (Operand.tmp 114) 3, type := 3, pos := _, after := #[{ on := 25, ground := Ground.data }, { on := 27, ground := Ground.data }, { on := 18, ground := Ground.guard }], guard := some (18, true) }) (v := undef) rfl (by kernel_rfl) (by kernel_rfl) (by kernel_rfl) (by kernel_rfl) (fun _ _ _ h => h) (by assumption) (Or.inr ⟨by rfl, rfl⟩) (fun _ => rfl) ?_
                            try simp only [Act.put, List.setIfInBounds_toArray, List.set_cons_zero, List.set_cons_succ]
                            refine ordS_take (i := 29) (oi := { dst := some 116, op := Op.indexAddr 42 (Operand.tmp 106) (Operand.tmp 115), type := 0, pos := _, after := #[{ on := 19, ground := Ground.data }, { on := 28, ground := Ground.data }, { on := 18, ground := Ground.guard }], guard := some (18, true) }) (v := undef) rfl (by kernel_rfl) (by kernel_rfl) (by kernel_rfl) (by kernel_rfl) (fun _ _ _ h => h) (by assumption) (Or.inr ⟨by rfl, rfl⟩) (fun _ => rfl) ?_
                            try simp only [Act.put, List.setIfInBounds_toArray, List.set_cons_zero, List.set_cons_succ]
                            refine ordS_take (i := 30) (oi := { dst := some 117, op := Op.load 36 (Operand.tmp 116), type := 36, pos := _, after := #[{ on := 29, ground := Ground.data }, { on := 18, ground := Ground.guard }], guard := some (18, true) }) (v := undef) rfl (by kernel_rfl) (by kernel_rfl) (by kernel_rfl) (by kernel_rfl) (fun _ _ _ h => h) (by assumption) (Or.inr ⟨by rfl, rfl⟩) (fun _ => rfl) ?_
                            try simp only [Act.put, List.setIfInBounds_toArray, List.set_cons_zero, List.set_cons_succ]
                            refine ordS_take (i := 31) (oi := { dst := some 118, op := Op.load 26 (Operand.tmp 3), type := 26, pos := _, after := #[{ on := 18, ground := Ground.guard }], guard := some (18, true) }) (v := undef) rfl (by kernel_rfl) (by kernel_rfl) (by kernel_rfl) (by kernel_rfl) (fun _ _ _ h => h) (by assumption) (Or.inr ⟨by rfl, rfl⟩) (fun _ => rfl) ?_
                            try simp only [Act.put, List.setIfInBounds_toArray, List.set_cons_zero, List.set_cons_succ]
                            refine ordS_take (i := 32) (oi := { dst := some 119, op := Op.load 30 (Operand.tmp 13), type := 30, pos := _, after := #[{ on := 18, ground := Ground.guard }], guard := some (18, true) }) (v := undef) rfl (by kernel_rfl) (by kernel_rfl) (by kernel_rfl) (by kernel_rfl) (fun _ _ _ h => h) (by assumption) (Or.inr ⟨by rfl, rfl⟩) (fun _ => rfl) ?_
                            try simp only [Act.put, List.setIfInBounds_toArray, List.set_cons_zero, List.set_cons_succ]
                            refine ordS_take (i := 35) (oi := { dst := some 122, op := Op.move (Operand.tmp 7), type := 42, pos := _, after := #[{ on := 18, ground := Ground.guard }], guard := some (18, true) }) (v := undef) rfl (by kernel_rfl) (by kernel_rfl) (by kernel_rfl) (by kernel_rfl) (fun _ _ _ h => h) (by assumption) (Or.inr ⟨by rfl, rfl⟩) (fun _ => rfl) ?_
                            try simp only [Act.put, List.setIfInBounds_toArray, List.set_cons_zero, List.set_cons_succ]
                            refine ordS_take (i := 36) (oi := { dst := some 123, op := Op.move (Operand.tmp 11), type := 3, pos := _, after := #[{ on := 18, ground := Ground.guard }], guard := some (18, true) }) (v := undef) rfl (by kernel_rfl) (by kernel_rfl) (by kernel_rfl) (by kernel_rfl) (fun _ _ _ h => h) (by assumption) (Or.inr ⟨by rfl, rfl⟩) (fun _ => rfl) ?_
                            try simp only [Act.put, List.setIfInBounds_toArray, List.set_cons_zero, List.set_cons_succ]
                            refine ordS_take (i := 37) (oi := { dst := some 124, op := Op.fieldAddr 26 (Operand.tmp 3) 0, type := 0, pos := _, after := #[{ on := 18, ground := Ground.guard }], guard := some (18, true) }) (v := undef) rfl (by kernel_rfl) (by kernel_rfl) (by kernel_rfl) (by kernel_rfl) (fun _ _ _ h => h) (by assumption) (Or.inr ⟨by rfl, rfl⟩) (fun _ => rfl) ?_
                            try simp only [Act.put, List.setIfInBounds_toArray, List.set_cons_zero, List.set_cons_succ]
                            refine ordS_take (i := 38) (oi := { dst := some 125, op := Op.fieldAddr 23 (Operand.tmp 124) 0, type := 0, pos := _, after := #[{ on := 37, ground := Ground.data }, { on := 18, ground := Ground.guard }], guard := some (18, true) }) (v := undef) rfl (by kernel_rfl) (by kernel_rfl) (by kernel_rfl) (by kernel_rfl) (fun _ _ _ h => h) (by assumption) (Or.inr ⟨by rfl, rfl⟩) (fun _ => rfl) ?_
                            try simp only [Act.put, List.setIfInBounds_toArray, List.set_cons_zero, List.set_cons_succ]
                            refine ordS_take (i := 39) (oi := { dst := some 126, op := Op.load 3 (Operand.tmp 125), type := 3, pos := _, after := #[{ on := 38, ground := Ground.data }, { on := 18, ground := Ground.guard }], guard := some (18, true) }) (v := undef) rfl (by kernel_rfl) (by kernel_rfl) (by kernel_rfl) (by kernel_rfl) (fun _ _ _ h => h) (by assumption) (Or.inr ⟨by rfl, rfl⟩) (fun _ => rfl) ?_
                            try simp only [Act.put, List.setIfInBounds_toArray, List.set_cons_zero, List.set_cons_succ]
                            refine ordS_take (i := 40) (oi := { dst := some 127, op := Op.binOp BinOp.mul 3 (Operand.tmp 123) (Operand.tmp 126) 3, type := 3, pos := _, after := #[{ on := 36, ground := Ground.data }, { on := 39, ground := Ground.data }, { on := 18, ground := Ground.guard }], guard := some (18, true) }) (v := undef) rfl (by kernel_rfl) (by kernel_rfl) (by kernel_rfl) (by kernel_rfl) (fun _ _ _ h => h) (by assumption) (Or.inr ⟨by rfl, rfl⟩) (fun _ => rfl) ?_
                            try simp only [Act.put, List.setIfInBounds_toArray, List.set_cons_zero, List.set_cons_succ]
                            refine ordS_take (i := 41) (oi := { dst := some 128, op := Op.move (Operand.tmp 12), type := 3, pos := _, after := #[{ on := 18, ground := Ground.guard }], guard := some (18, true) }) (v := undef) rfl (by kernel_rfl) (by kernel_rfl) (by kernel_rfl) (by kernel_rfl) (fun _ _ _ h => h) (by assumption) (Or.inr ⟨by rfl, rfl⟩) (fun _ => rfl) ?_
                            try simp only [Act.put, List.setIfInBounds_toArray, List.set_cons_zero, List.set_cons_succ]
                            refine ordS_take (i := 42) (oi := { dst := some 129, op := Op.binOp BinOp.add 3 (Operand.tmp 127) (Operand.tmp 128) 3, type := 3, pos := _, after := #[{ on := 40, ground := Ground.data }, { on := 41, ground := Ground.data }, { on := 18, ground := Ground.guard }], guard := some (18, true) }) (v := undef) rfl (by kernel_rfl) (by kernel_rfl) (by kernel_rfl) (by kernel_rfl) (fun _ _ _ h => h) (by assumption) (Or.inr ⟨by rfl, rfl⟩) (fun _ => rfl) ?_
                            try simp only [Act.put, List.setIfInBounds_toArray, List.set_cons_zero, List.set_cons_succ]
                            refine ordS_take (i := 43) (oi := { dst := some 130, op := Op.indexAddr 42 (Operand.tmp 122) (Operand.tmp 129), type := 0, pos := _, after := #[{ on := 35, ground := Ground.data }, { on := 42, ground := Ground.data }, { on := 18, ground := Ground.guard }], guard := some (18, true) }) (v := undef) rfl (by kernel_rfl) (by kernel_rfl) (by kernel_rfl) (by kernel_rfl) (fun _ _ _ h => h) (by assumption) (Or.inr ⟨by rfl, rfl⟩) (fun _ => rfl) ?_
                            try simp only [Act.put, List.setIfInBounds_toArray, List.set_cons_zero, List.set_cons_succ]
                            refine ordS_take (i := 44) (oi := { dst := some 131, op := Op.load 36 (Operand.tmp 130), type := 36, pos := _, after := #[{ on := 43, ground := Ground.data }, { on := 18, ground := Ground.guard }], guard := some (18, true) }) (v := undef) rfl (by kernel_rfl) (by kernel_rfl) (by kernel_rfl) (by kernel_rfl) (fun _ _ _ h => h) (by assumption) (Or.inr ⟨by rfl, rfl⟩) (fun _ => rfl) ?_
                            try simp only [Act.put, List.setIfInBounds_toArray, List.set_cons_zero, List.set_cons_succ]
                            refine ordS_skip (i := 33) (o := { dst := some 120, op := Op.call { callee := Callee.value (Operand.func 36), args := #[Operand.tmp 118, Operand.tmp 119], argTypes := #[26, 30] }, type := 36, pos := _, after := #[{ on := 31, ground := Ground.data }, { on := 32, ground := Ground.data }, { on := 18, ground := Ground.chain }, { on := 18, ground := Ground.guard }], guard := some (18, true) }) (by kernel_rfl) rfl (by rfl) (fun _ => trivial) (by assumption) ?_
                            try simp only [Act.put, List.setIfInBounds_toArray, List.set_cons_zero, List.set_cons_succ]
                            refine ordS_take (i := 34) (oi := { dst := some 121, op := Op.binOp BinOp.add 36 (Operand.tmp 117) (Operand.tmp 120) 36, type := 36, pos := _, after := #[{ on := 30, ground := Ground.data }, { on := 33, ground := Ground.data }, { on := 18, ground := Ground.guard }], guard := some (18, true) }) (v := undef) rfl (by kernel_rfl) (by kernel_rfl) (by kernel_rfl) (by kernel_rfl) (fun _ _ _ h => h) (by assumption) (Or.inr ⟨by rfl, rfl⟩) (fun _ => rfl) ?_
                            try simp only [Act.put, List.setIfInBounds_toArray, List.set_cons_zero, List.set_cons_succ]
                            refine ordS_take (i := 45) (oi := { dst := some 132, op := Op.binOp BinOp.lss 36 (Operand.tmp 121) (Operand.tmp 131) 36, type := 4, pos := _, after := #[{ on := 34, ground := Ground.data }, { on := 44, ground := Ground.data }, { on := 18, ground := Ground.guard }], guard := some (18, true) }) (v := undef) rfl (by kernel_rfl) (by kernel_rfl) (by kernel_rfl) (by kernel_rfl) (fun _ _ _ h => h) (by assumption) (Or.inr ⟨by rfl, rfl⟩) (fun _ => rfl) ?_
                            try simp only [Act.put, List.setIfInBounds_toArray, List.set_cons_zero, List.set_cons_succ]
                            refine' ordS_take (i := 46) (oi := { dst := some 133, op := Op.pick (Operand.tmp 105) (Operand.tmp 132) (Operand.const (Value.bool false)), type := 4, pos := _, after := #[{ on := 18, ground := Ground.data }, { on := 45, ground := Ground.data }], guard := none }) (v := _) rfl (by kernel_rfl) (by kernel_rfl) (by kernel_rfl) (by kernel_rfl) (fun _ _ _ h => h) (by assumption) (Or.inl ⟨by rfl, ?hy248⟩) (fun _ => rfl) ?rest248
                            case hy248 => (intro w hSw; (try dsimp only at hSw); go_simp; try with_reducible rfl)
                            try simp only [Act.put, List.setIfInBounds_toArray, List.set_cons_zero, List.set_cons_succ]
                            refine ordS_done (by kernel_rfl) ?_
                            have HI9 := Lib.hid (HI1.out.below hB)
                            have q0 := cell_later hB kp0
                            have q1 := cell_later hB kp1
                            clear hS hS3 hB kp0 kp1 kf0 kf1 kf2 kx0 kx1 kx2 kx3 km0 km1 ku zk0 zk1 zk2 zk3 zk4
                            go_wp2
                            go_roundw
                            case rel => exact ⟨d + 1, t, by omega, by go_num, rfl, fun h => by rw [HEQ.out]; exact HTD.out h, by rw [HEQ.out]; exact HI9.out, q0, q1⟩
                            case measure => simp [intOf]; omega
                          · rw [hin] at HHB
                            obtain ⟨hml, hmw1, hmw2, _⟩ := HNU.out M hin
                            have HGE := Lib.hid (show ∀ v, atD sd (numN A M) = v → (v = 18446744073709551615 → G (d + 1) = sd) ∧ (v ≠ 18446744073709551615 → ¬ IntKind.u64.wrap (v + kc) < u → G (d + 1) = sd) ∧ (v ≠ 18446744073709551615 → IntKind.u64.wrap (v + kc) < u → G (d + 1) = sd.set ci (IntKind.u64.wrap (v + kc))) by
                              intro v hv
                              rw [HGD.out, hv]
                              exact ⟨fun h => by rw [if_neg (fun q => q.2.1 h)], fun _ h => by rw [if_neg (fun q => h q.2.2)], fun h1 h2 => by rw [if_pos ⟨hin, h1, h2⟩]⟩)
                            have kv := (HI1.out.at (show numN A M < sd.length by rw [hsdl]; exact hml)).1
                            obtain ⟨v, hv⟩ : ∃ v, atD sd (numN A M) = v := ⟨_, rfl⟩
                            have HGV := Lib.hid (HGE.out v hv)
                            rw [hv] at kv
                            obtain ⟨mi, hmi⟩ : ∃ mi, numN A M = mi := ⟨_, rfl⟩
                            rw [hmi] at kv hml hmw2
                            have hmi0 : (0 : Int) ≤ (mi : Int) := by omega
                            have hmi2 : (mi : Int) < (zs.length : Int) := by omega
                            clear HGE hv hmi hin
                            by_cases hvi : v = 18446744073709551615
                            · have HEQ := Lib.hid (HGV.out.1 hvi)
                              have hvb : (v != 18446744073709551615) = false := by rw [hvi]; rfl
                              clear hvi
                              have hB := bl_dr (bl0 W1)
                              have hS : (fun W9 : World => W9.cell? ⟨w.heap.size, 0, none⟩ = some (.int .i64 A) ∧ W9.cell? ⟨w.heap.size, 1, none⟩ = some (.int .i64 B) ∧ W9.cell? ⟨w.heap.size, 2, none⟩ = some (.slice a zs.length cap) ∧ W9.cell? ⟨w.heap.size + 1, 0, none⟩ = some (.int .i64 X) ∧ W9.cell? ⟨w.heap.size + 1, 1, none⟩ = some (.int .i64 Y) ∧ W9.cell? ⟨w.heap.size + 1, 2, none⟩ = some (.int .i64 U) ∧ W9.cell? ⟨w.heap.size + 1, 3, none⟩ = some (.int .i64 V) ∧ W9.cell? ⟨cp, 0, none⟩ = some (.int .i64 x) ∧ W9.cell? ⟨cp, 1, none⟩ = some (.int .i64 y) ∧ W9.cell? ⟨mp, 0, none⟩ = some (.int .i64 M.1) ∧ W9.cell? ⟨mp, 1, none⟩ = some (.int .i64 M.2) ∧ W9.cell? ⟨w.heap.size + 1 + 1 + 1, mi, none⟩ = some (.int .u64 v) ∧ W9.cell? ⟨w.heap.size + 1 + 1 + 1, ci, none⟩ = some (.int .u64 u)) W1.drew := ⟨cell_later hB kf0, cell_later hB kf1, cell_later hB kf2, cell_later hB kx0, cell_later hB kx1, cell_later hB kx2, cell_later hB kx3, cell_later hB kp0, cell_later hB kp1, cell_later hB km0, cell_later hB km1, cell_later hB kv, cell_later hB ku⟩
                              refine (wpIn_wide (n := 11)).1 ?_
                              refine ordS_begin (S := (fun W9 : World => W9.cell? ⟨w.heap.size, 0, none⟩ = some (.int .i64 A) ∧ W9.cell? ⟨w.heap.size, 1, none⟩ = some (.int .i64 B) ∧ W9.cell? ⟨w.heap.size, 2, none⟩ = some (.slice a zs.length cap) ∧ W9.cell? ⟨w.heap.size + 1, 0, none⟩ = some (.int .i64 X) ∧ W9.cell? ⟨w.heap.size + 1, 1, none⟩ = some (.int .i64 Y) ∧ W9.cell? ⟨w.heap.size + 1, 2, none⟩ = some (.int .i64 U) ∧ W9.cell? ⟨w.heap.size + 1, 3, none⟩ = some (.int .i64 V) ∧ W9.cell? ⟨cp, 0, none⟩ = some (.int .i64 x) ∧ W9.cell? ⟨cp, 1, none⟩ = some (.int .i64 y) ∧ W9.cell? ⟨mp, 0, none⟩ = some (.int .i64 M.1) ∧ W9.cell? ⟨mp, 1, none⟩ = some (.int .i64 M.2) ∧ W9.cell? ⟨w.heap.size + 1 + 1 + 1, mi, none⟩ = some (.int .u64 v) ∧ W9.cell? ⟨w.heap.size + 1 + 1 + 1, ci, none⟩ = some (.int .u64 u))) (by kernel_rfl) hS (fun hH => ?_)
                              refine' ordS_take (i := 0) (oi := { dst := some 87, op := Op.load 28 (Operand.tmp 4), type := 28, pos := _, after := #[], guard := none }) (v := _) rfl (by kernel_rfl) (by kernel_rfl) (by kernel_rfl) (by kernel_rfl) (fun _ _ _ h => h) (by assumption) (Or.inl ⟨by rfl, ?hy249⟩) (fun _ => rfl) ?rest249
                              case hy249 => (intro w hSw; (try dsimp only at hSw); go_simp; try with_reducible rfl)
                              try simp only [Act.put, List.setIfInBounds_toArray, List.set_cons_zero, List.set_cons_succ]
                              refine' ordS_take (i := 1) (oi := { dst := some 88, op := Op.load 30 (Operand.tmp 15), type := 30, pos := _, after := #[], guard := none }) (v := _) rfl (by kernel_rfl) (by kernel_rfl) (by kernel_rfl) (by kernel_rfl) (fun _ _ _ h => h) (by assumption) (Or.inl ⟨by rfl, ?hy250⟩) (fun _ => rfl) ?rest250
                              case hy250 => (intro w hSw; (try dsimp only at hSw); go_simp; try with_reducible rfl)
                              try simp only [Act.put, List.setIfInBounds_toArray, List.set_cons_zero, List.set_cons_succ]
                              obtain ⟨W2, hW2⟩ : ∃ W2, W1.drew = W2 := ⟨_, rfl⟩
                              rw [hW2] at hB hS
                              rw [hW2]
                              clear hW2 hH
                              refine ordS_one (i := 2) (o := { dst := some 89, op := Op.call { callee := Callee.value (Operand.func 11), args := #[Operand.tmp 87, Operand.tmp 88], argTypes := #[28, 30] }, type := 4, pos := _, after := #[{ on := 0, ground := Ground.data }, { on := 1, ground := Ground.data }], guard := none }) (by kernel_rfl) rfl (by rfl) (fun K hK => ?_)
                              go_simp
                              refine ⟨trivial, ?_⟩
                              with_reducible refine (callsIn_wide.2 (HHB.out _)).mono ?_
                              rintro e W3 ⟨rfl, hbW3⟩
                              replace hB := bl_tr hB hbW3
                              have hS3 : (fun W9 : World => W9.cell? ⟨w.heap.size, 0, none⟩ = some (.int .i64 A) ∧ W9.cell? ⟨w.heap.size, 1, none⟩ = some (.int .i64 B) ∧ W9.cell? ⟨w.heap.size, 2, none⟩ = some (.slice a zs.length cap) ∧ W9.cell? ⟨w.heap.size + 1, 0, none⟩ = some (.int .i64 X) ∧ W9.cell? ⟨w.heap.size + 1, 1, none⟩ = some (.int .i64 Y) ∧ W9.cell? ⟨w.heap.size + 1, 2, none⟩ = some (.int .i64 U) ∧ W9.cell? ⟨w.heap.size + 1, 3, none⟩ = some (.int .i64 V) ∧ W9.cell? ⟨cp, 0, none⟩ = some (.int .i64 x) ∧ W9.cell? ⟨cp, 1, none⟩ = some (.int .i64 y) ∧ W9.cell? ⟨mp, 0, none⟩ = some (.int .i64 M.1) ∧ W9.cell? ⟨mp, 1, none⟩ = some (.int .i64 M.2) ∧ W9.cell? ⟨w.heap.size + 1 + 1 + 1, mi, none⟩ = some (.int .u64 v) ∧ W9.cell? ⟨w.heap.size + 1 + 1 + 1, ci, none⟩ = some (.int .u64 u)) W3 := ⟨cell_later hbW3 hS.1, cell_later hbW3 hS.2.1, cell_later hbW3 hS.2.2.1, cell_later hbW3 hS.2.2.2.1, cell_later hbW3 hS.2.2.2.2.1, cell_later hbW3 hS.2.2.2.2.2.1, cell_later hbW3 hS.2.2.2.2.2.2.1, cell_later hbW3 hS.2.2.2.2.2.2.2.1, cell_later hbW3 hS.2.2.2.2.2.2.2.2.1, cell_later hbW3 hS.2.2.2.2.2.2.2.2.2.1, cell_later hbW3 hS.2.2.2.2.2.2.2.2.2.2.1, cell_later hbW3 hS.2.2.2.2.2.2.2.2.2.2.2.1, cell_later hbW3 hS.2.2.2.2.2.2.2.2.2.2.2.2⟩
                              refine hK _ _ hS3 ?_
                              clear hK K
                              try simp only [Act.put, List.setIfInBounds_toArray, List.set_cons_zero, List.set_cons_succ]
                              refine' ordS_take (i := 3) (oi := { dst := some 90, op := Op.move (Operand.tmp 89), type := 4, pos := _, after := #[{ on := 2, ground := Ground.data }, { on := 2, ground := Ground.chain }], guard := none }) (v := _) rfl (by kernel_rfl) (by kernel_rfl) (by kernel_rfl) (by kernel_rfl) (fun _ _ _ h => h) (by assumption) (Or.inl ⟨by rfl, ?hy251⟩) (fun _ => rfl) ?rest251
                              case hy251 => (intro w hSw; (try dsimp only at hSw); go_simp; try with_reducible rfl)
                              try simp only [Act.put, List.setIfInBounds_toArray, List.set_cons_zero, List.set_cons_succ]
                              refine' ordS_take (i := 4) (oi := { dst := some 91, op := Op.move (Operand.tmp 7), type := 42, pos := _, after := #[{ on := 3, ground := Ground.guard }], guard := some (3, true) }) (v := _) rfl (by kernel_rfl) (by kernel_rfl) (by kernel_rfl) (by kernel_rfl) (fun _ _ _ h => h) (by assumption) (Or.inl ⟨by rfl, ?hy252⟩) (fun _ => rfl) ?rest252
                              case hy252 => (intro w hSw; (try dsimp only at hSw); go_simp; try with_reducible rfl)
                              try simp only [Act.put, List.setIfInBounds_toArray, List.set_cons_zero, List.set_cons_succ]
                              refine' ordS_take (i := 5) (oi := { dst := some 92, op := Op.fieldAddr 30 (Operand.tmp 15) 1, type := 0, pos := _, after := #[{ on := 3, ground := Ground.guard }], guard := some (3, true) }) (v := _) rfl (by kernel_rfl) (by kernel_rfl) (by kernel_rfl) (by kernel_rfl) (fun _ _ _ h => h) (by assumption) (Or.inl ⟨by rfl, ?hy253⟩) (fun _ => rfl) ?rest253
                              case hy253 => (intro w hSw; (try dsimp only at hSw); go_simp; try with_reducible rfl)
                              try simp only [Act.put, List.setIfInBounds_toArray, List.set_cons_zero, List.set_cons_succ]
                              refine' ordS_take (i := 6) (oi := { dst := some 93, op := Op.load 3 (Operand.tmp 92), type := 3, pos := _, after := #[{ on := 5, ground := Ground.data }, { on := 3, ground := Ground.guard }], guard := some (3, true) }) (v := _) rfl (by kernel_rfl) (by kernel_rfl) (by kernel_rfl) (by kernel_rfl) (fun _ _ _ h => h) (by assumption) (Or.inl ⟨by rfl, ?hy254⟩) (fun _ => rfl) ?rest254
                              case hy254 => (intro w hSw; (try dsimp only at hSw); go_simp; try with_reducible rfl)
                              try simp only [Act.put, List.setIfInBounds_toArray, List.set_cons_zero, List.set_cons_succ]
                              refine' ordS_take (i := 7) (oi := { dst := some 94, op := Op.fieldAddr 26 (Operand.tmp 3) 0, type := 0, pos := _, after := #[{ on := 3, ground := Ground.guard }], guard := some (3, true) }) (v := _) rfl (by kernel_rfl) (by kernel_rfl) (by kernel_rfl) (by kernel_rfl) (fun _ _ _ h => h) (by assumption) (Or.inl ⟨by rfl, ?hy255⟩) (fun _ => rfl) ?rest255
                              case hy255 => (intro w hSw; (try dsimp only at hSw); go_simp; try with_reducible rfl)
                              try simp only [Act.put, List.setIfInBounds_toArray, List.set_cons_zero, List.set_cons_succ]
                              refine' ordS_take (i := 8) (oi := { dst := some 95, op := Op.fieldAddr 23 (Operand.tmp 94) 0, type := 0, pos := _, after := #[{ on := 7, ground := Ground.data }, { on := 3, ground := Ground.guard }], guard := some (3, true) }) (v := _) rfl (by kernel_rfl) (by kernel_rfl) (by kernel_rfl) (by kernel_rfl) (fun _ _ _ h => h) (by assumption) (Or.inl ⟨by rfl, ?hy256⟩) (fun _ => rfl) ?rest256
                              case hy256 => (intro w hSw; (try dsimp only at hSw); go_simp; try with_reducible rfl)
                              try simp only [Act.put, List.setIfInBounds_toArray, List.set_cons_zero, List.set_cons_succ]
                              refine' ordS_take (i := 9) (oi := { dst := some 96, op := Op.load 3 (Operand.tmp 95), type := 3, pos := _, after := #[{ on := 8, ground := Ground.data }, { on := 3, ground := Ground.guard }], guard := some (3, true) }) (v := _) rfl (by kernel_rfl) (by kernel_rfl) (by kernel_rfl) (by kernel_rfl) (fun _ _ _ h => h) (by assumption) (Or.inl ⟨by rfl, ?hy257⟩) (fun _ => rfl) ?rest257
                              case hy257 => (intro w hSw; (try dsimp only at hSw); go_simp; try with_reducible rfl)
                              try simp only [Act.put, List.setIfInBounds_toArray, List.set_cons_zero, List.set_cons_succ]
                              refine' ordS_take (i := 10) (oi := { dst := some 97, op := Op.binOp BinOp.mul 3 (Operand.tmp 93) (Operand.tmp 96) 3, type := 3, pos := _, after := #[{ on := 6, ground := Ground.data }, { on := 9, ground := Ground.data }, { on := 3, ground := Ground.guard }], guard := some (3, true) }) (v := _) rfl (by kernel_rfl) (by kernel_rfl) (by kernel_rfl) (by kernel_rfl) (fun _ _ _ h => h) (by assumption) (Or.inl ⟨by rfl, ?hy258⟩) (fun _ => rfl) ?rest258
                              case hy258 => (intro w hSw; (try dsimp only at hSw); go_simp; try with_reducible rfl)
                              try simp only [Act.put, List.setIfInBounds_toArray, List.set_cons_zero, List.set_cons_succ]
                              refine' ordS_take (i := 11) (oi := { dst := some 98, op := Op.fieldAddr 30 (Operand.tmp 15) 0, type := 0, pos := _, after := #[{ on := 3, ground := Ground.guard }], guard := some (3, true) }) (v := _) rfl (by kernel_rfl) (by kernel_rfl) (by kernel_rfl) (by kernel_rfl) (fun _ _ _ h => h) (by assumption) (Or.inl ⟨by rfl, ?hy259⟩) (fun _ => rfl) ?rest259
                              case hy259 => (intro w hSw; (try dsimp only at hSw); go_simp; try with_reducible rfl)
                              try simp only [Act.put, List.setIfInBounds_toArray, List.set_cons_zero, List.set_cons_succ]
                              refine' ordS_take (i := 12) (oi := { dst := some 99, op := Op.load 3 (Operand.tmp 98), type := 3, pos := _, after := #[{ on := 11, ground := Ground.data }, { on := 3, ground := Ground.guard }], guard := some (3, true) }) (v := _) rfl (by kernel_rfl) (by kernel_rfl) (by kernel_rfl) (by kernel_rfl) (fun _ _ _ h => h) (by assumption) (Or.inl ⟨by rfl, ?hy260⟩) (fun _ => rfl) ?rest260
                              case hy260 => (intro w hSw; (try dsimp only at hSw); go_simp; try with_reducible rfl)
                              try simp only [Act.put, List.setIfInBounds_toArray, List.set_cons_zero, List.set_cons_succ]
                              refine' ordS_take (i := 13) (oi := { dst := some 100, op := Op.binOp BinOp.add 3 (Operand.tmp 97) (Operand.tmp 99) 3, type := 3, pos := _, after := #[{ on := 10, ground := Ground.data }, { on := 12, ground := Ground.data }, { on := 3, ground := Ground.guard }], guard := some (3, true) }) (v := _) rfl (by kernel_rfl) (by kernel_rfl) (by kernel_rfl) (by kernel_rfl) (fun _ _ _ h => h) (by assumption) (Or.inl ⟨by rfl, ?hy261⟩) (fun _ => rfl) ?rest261
                              case hy261 => (intro w hSw; (try dsimp only at hSw); go_simp; try with_reducible rfl)
                              try simp only [Act.put, List.setIfInBounds_toArray, List.set_cons_zero, List.set_cons_succ]
                              refine' ordS_take (i := 14) (oi := { dst := some 101, op := Op.indexAddr 42 (Operand.tmp 91) (Operand.tmp 100), type := 0, pos := _, after := #[{ on := 4, ground := Ground.data }, { on := 13, ground := Ground.data }, { on := 3, ground := Ground.guard }], guard := some (3, true) }) (v := _) rfl (by kernel_rfl) (by kernel_rfl) (by kernel_rfl) (by kernel_rfl) (fun _ _ _ h => h) (by assumption) (Or.inl ⟨by rfl, ?hy262⟩) (fun _ => rfl) ?rest262
                              case hy262 => (intro w hSw; (try dsimp only at hSw); go_simp; try with_reducible rfl)
                              try simp only [Act.put, List.setIfInBounds_toArray, List.set_cons_zero, List.set_cons_succ]
                              refine' ordS_take (i := 15) (oi := { dst := some 102, op := Op.load 36 (Operand.tmp 101), type := 36, pos := _, after := #[{ on := 14, ground := Ground.data }, { on := 3, ground := Ground.guard }], guard := some (3, true) }) (v := _) rfl (by kernel_rfl) (by kernel_rfl) (by kernel_rfl) (by kernel_rfl) (fun _ _ _ h => h) (by assumption) (Or.inl ⟨by rfl, ?hy263⟩) (fun _ => rfl) ?rest263
                              case hy263 => (intro w hSw; (try dsimp only at hSw); go_simp; try with_reducible rfl)
                              try simp only [Act.put, List.setIfInBounds_toArray, List.set_cons_zero, List.set_cons_succ]
                              refine' ordS_take (i := 16) (oi := { dst := some 103, op := Op.binOp BinOp.neq 36 (Operand.tmp 102) (Operand.const (Value.int IntKind.u64 18446744073709551615)) 36, type := 4, pos := _, after := #[{ on := 15, ground := Ground.data }, { on := 3, ground := Ground.guard }], guard := some (3, true) }) (v := _) rfl (by kernel_rfl) (by kernel_rfl) (by kernel_rfl) (by kernel_rfl) (fun _ _ _ h => h) (by assumption) (Or.inl ⟨by rfl, ?hy264⟩) (fun _ => rfl) ?rest264
                              case hy264 => (intro w hSw; (try dsimp only at hSw); go_simp; try with_reducible rfl)
                              try simp only [Act.put, List.setIfInBounds_toArray, List.set_cons_zero, List.set_cons_succ]
                              refine' ordS_take (i := 17) (oi := { dst := some 104, op := Op.pick (Operand.tmp 90) (Operand.tmp 103) (Operand.const (Value.bool false)), type := 4, pos := _, after := #[{ on := 3, ground := Ground.data }, { on := 16, ground := Ground.data }], guard := none }) (v := _) rfl (by kernel_rfl) (by kernel_rfl) (by kernel_rfl) (by kernel_rfl) (fun _ _ _ h => h) (by assumption) (Or.inl ⟨by rfl, ?hy265⟩) (fun _ => rfl) ?rest265
                              case hy265 => (intro w hSw; (try dsimp only at hSw); go_simp; try with_reducible rfl)
                              try simp only [Act.put, List.setIfInBounds_toArray, List.set_cons_zero, List.set_cons_succ]
                              refine' ordS_take (i := 18) (oi := { dst := some 105, op := Op.move (Operand.tmp 104), type := 4, pos := _, after := #[{ on := 17, ground := Ground.data }, { on := 3, ground := Ground.chain }], guard := none }) (v := _) rfl (by kernel_rfl) (by kernel_rfl) (by kernel_rfl) (by kernel_rfl) (fun _ _ _ h => h) (by assumption) (Or.inl ⟨by rfl, ?hy266⟩) (fun _ => rfl) ?rest266
                              case hy266 => (intro w hSw; (try dsimp only at hSw); go_simp; try with_reducible rfl)
                              try simp only [Act.put, List.setIfInBounds_toArray, List.set_cons_zero, List.set_cons_succ]
                              refine ordS_take (i := 19) (oi := { dst := some 106, op := Op.move (Operand.tmp 7), type := 42, pos := _, after := #[{ on := 18, ground := Ground.guard }], guard := some (18, true) }) (v := undef) rfl (by kernel_rfl) (by kernel_rfl) (by kernel_rfl) (by kernel_rfl) (fun _ _ _ h => h) (by assumption) (Or.inr ⟨by rfl, rfl⟩) (fun _ => rfl) ?_
                              try simp only [Act.put, List.setIfInBounds_toArray, List.set_cons_zero, List.set_cons_succ]
                              refine ordS_take (i := 20) (oi := { dst := some 107, op := Op.fieldAddr 30 (Operand.tmp 15) 1, type := 0, pos := _, after := #[{ on := 18, ground := Ground.guard }], guard := some (18, true) }) (v := undef) rfl (by kernel_rfl) (by kernel_rfl) (by kernel_rfl) (by kernel_rfl) (fun _ _ _ h => h) (by assumption) (Or.inr ⟨by rfl, rfl⟩) (fun _ => rfl) ?_
                              try simp only [Act.put, List.setIfInBounds_toArray, List.set_cons_zero, List.set_cons_succ]
                              refine ordS_take (i := 21) (oi := { dst := some 108, op := Op.load 3 (Operand.tmp 107), type := 3, pos := _, after := #[{ on := 20, ground := Ground.data }, { on := 18, ground := Ground.guard }], guard := some (18, true) }) (v := undef) rfl (by kernel_rfl) (by kernel_rfl) (by kernel_rfl) (by kernel_rfl) (fun _ _ _ h => h) (by assumption) (Or.inr ⟨by rfl, rfl⟩) (fun _ => rfl) ?_
                              try simp only [Act.put, List.setIfInBounds_toArray, List.set_cons_zero, List.set_cons_succ]
                              refine ordS_take (i := 22) (oi := { dst := some 109, op := Op.fieldAddr 26 (Operand.tmp 3) 0, type := 0, pos := _, after := #[{ on := 18, ground := Ground.guard }], guard := some (18, true) }) (v := undef) rfl (by kernel_rfl) (by kernel_rfl) (by kernel_rfl) (by kernel_rfl) (fun _ _ _ h => h) (by assumption) (Or.inr ⟨by rfl, rfl⟩) (fun _ => rfl) ?_
                              try simp only [Act.put, List.setIfInBounds_toArray, List.set_cons_zero, List.set_cons_succ]
                              refine ordS_take (i := 23) (oi := { dst := some 110, op := Op.fieldAddr 23 (Operand.tmp 109) 0, type := 0, pos := _, after := #[{ on := 22, ground := Ground.data }, { on := 18, ground := Ground.guard }], guard := some (18, true) }) (v := undef) rfl (by kernel_rfl) (by kernel_rfl) (by kernel_rfl) (by kernel_rfl) (fun _ _ _ h => h) (by assumption) (Or.inr ⟨by rfl, rfl⟩) (fun _ => rfl) ?_
                              try simp only [Act.put, List.setIfInBounds_toArray, List.set_cons_zero, List.set_cons_succ]
                              refine ordS_take (i := 24) (oi := { dst := some 111, op := Op.load 3 (Operand.tmp 110), type := 3, pos := _, after := #[{ on := 23, ground := Ground.data }, { on := 18, ground := Ground.guard }], guard := some (18, true) }) (v := undef) rfl (by kernel_rfl) (by kernel_rfl) (by kernel_rfl) (by kernel_rfl) (fun _ _ _ h => h) (by assumption) (Or.inr ⟨by rfl, rfl⟩) (fun _ => rfl) ?_
                              try simp only [Act.put, List.setIfInBounds_toArray, List.set_cons_zero, List.set_cons_succ]
                              refine ordS_take (i := 25) (oi := { dst := some 112, op := Op.binOp BinOp.mul 3 (Operand.tmp 108) (Operand.tmp 111) 3, type := 3, pos := _, after := #[{ on := 21, ground := Ground.data }, { on := 24, ground := Ground.data }, { on := 18, ground := Ground.guard }], guard := some (18, true) }) (v := undef) rfl (by kernel_rfl) (by kernel_rfl) (by kernel_rfl) (by kernel_rfl) (fun _ _ _ h => h) (by assumption) (Or.inr ⟨by rfl, rfl⟩) (fun _ => rfl) ?_
                              try simp only [Act.put, List.setIfInBounds_toArray, List.set_cons_zero, List.set_cons_succ]
                              refine ordS_take (i := 26) (oi := { dst := some 113, op := Op.fieldAddr 30 (Operand.tmp 15) 0, type := 0, pos := _, after := #[{ on := 18, ground := Ground.guard }], guard := some (18, true) }) (v := undef) rfl (by kernel_rfl) (by kernel_rfl) (by kernel_rfl) (by kernel_rfl) (fun _ _ _ h => h) (by assumption) (Or.inr ⟨by rfl, rfl⟩) (fun _ => rfl) ?_
                              try simp only [Act.put, List.setIfInBounds_toArray, List.set_cons_zero, List.set_cons_succ]
                              refine ordS_take (i := 27) (oi := { dst := some 114, op := Op.load 3 (Operand.tmp 113), type := 3, pos := _, after := #[{ on := 26, ground := Ground.data }, { on := 18, ground := Ground.guard }], guard := some (18, true) }) (v := undef) rfl (by kernel_rfl) (by kernel_rfl) (by kernel_rfl) (by kernel_rfl) (fun _ _ _ h => h) (by assumption) (Or.inr ⟨by rfl, rfl⟩) (fun _ => rfl) ?_
                              try simp only [Act.put, List.setIfInBounds_toArray, List.set_cons_zero, List.set_cons_succ]
                              refine ordS_take (i := 28) (oi := { dst := some 115, op := Op.binOp BinOp.add 3 (Operand.tmp 112) (Operand.tmp 114) 3, type := 3, pos := _, after := #[{ on := 25, ground := Ground.data }, { on := 27, ground := Ground.data }, { on := 18, ground := Ground.guard }], guard := some (18, true) }) (v := undef) rfl (by kernel_rfl) (by kernel_rfl) (by kernel_rfl) (by kernel_rfl) (fun _ _ _ h => h) (by assumption) (Or.inr ⟨by rfl, rfl⟩) (fun _ => rfl) ?_
                              try simp only [Act.put, List.setIfInBounds_toArray, List.set_cons_zero, List.set_cons_succ]
                              refine ordS_take (i := 29) (oi := { dst := some 116, op := Op.indexAddr 42 (Operand.tmp 106) (Operand.tmp 115), type := 0, pos := _, after := #[{ on := 19, ground := Ground.data }, { on := 28, ground := Ground.data }, { on := 18, ground := Ground.guard }], guard := some (18, true) }) (v := undef) rfl (by kernel_rfl) (by kernel_rfl) (by kernel_rfl) (by kernel_rfl) (fun _ _ _ h => h) (by assumption) (Or.inr ⟨by rfl, rfl⟩) (fun _ => rfl) ?_
                              try simp only [Act.put, List.setIfInBounds_toArray, List.set_cons_zero, List.set_cons_succ]
                              refine ordS_take (i := 30) (oi := { dst := some 117, op := Op.load 36 (Operand.tmp 116), type := 36, pos := _, after := #[{ on := 29, ground := Ground.data }, { on := 18, ground := Ground.guard }], guard := some (18, true) }) (v := undef) rfl (by kernel_rfl) (by kernel_rfl) (by kernel_rfl) (by kernel_rfl) (fun _ _ _ h => h) (by assumption) (Or.inr ⟨by rfl, rfl⟩) (fun _ => rfl) ?_
                              try simp only [Act.put, List.setIfInBounds_toArray, List.set_cons_zero, List.set_cons_succ]
                              refine ordS_take (i := 31) (oi := { dst := some 118, op := Op.load 26 (Operand.tmp 3), type := 26, pos := _, after := #[{ on := 18, ground := Ground.guard }], guard := some (18, true) }) (v := undef) rfl (by kernel_rfl) (by kernel_rfl) (by kernel_rfl) (by kernel_rfl) (fun _ _ _ h => h) (by assumption) (Or.inr ⟨by rfl, rfl⟩) (fun _ => rfl) ?_
                              try simp only [Act.put, List.setIfInBounds_toArray, List.set_cons_zero, List.set_cons_succ]
                              refine ordS_take (i := 32) (oi := { dst := some 119, op := Op.load 30 (Operand.tmp 13), type := 30, pos := _, after := #[{ on := 18, ground := Ground.guard }], guard := some (18, true) }) (v := undef) rfl (by kernel_rfl) (by kernel_rfl) (by kernel_rfl) (by kernel_rfl) (fun _ _ _ h => h) (by assumption) (Or.inr ⟨by rfl, rfl⟩) (fun _ => rfl) ?_
                              try simp only [Act.put, List.setIfInBounds_toArray, List.set_cons_zero, List.set_cons_succ]
                              refine ordS_take (i := 35) (oi := { dst := some 122, op := Op.move (Operand.tmp 7), type := 42, pos := _, after := #[{ on := 18, ground := Ground.guard }], guard := some (18, true) }) (v := undef) rfl (by kernel_rfl) (by kernel_rfl) (by kernel_rfl) (by kernel_rfl) (fun _ _ _ h => h) (by assumption) (Or.inr ⟨by rfl, rfl⟩) (fun _ => rfl) ?_
                              try simp only [Act.put, List.setIfInBounds_toArray, List.set_cons_zero, List.set_cons_succ]
                              refine ordS_take (i := 36) (oi := { dst := some 123, op := Op.move (Operand.tmp 11), type := 3, pos := _, after := #[{ on := 18, ground := Ground.guard }], guard := some (18, true) }) (v := undef) rfl (by kernel_rfl) (by kernel_rfl) (by kernel_rfl) (by kernel_rfl) (fun _ _ _ h => h) (by assumption) (Or.inr ⟨by rfl, rfl⟩) (fun _ => rfl) ?_
                              try simp only [Act.put, List.setIfInBounds_toArray, List.set_cons_zero, List.set_cons_succ]
                              refine ordS_take (i := 37) (oi := { dst := some 124, op := Op.fieldAddr 26 (Operand.tmp 3) 0, type := 0, pos := _, after := #[{ on := 18, ground := Ground.guard }], guard := some (18, true) }) (v := undef) rfl (by kernel_rfl) (by kernel_rfl) (by kernel_rfl) (by kernel_rfl) (fun _ _ _ h => h) (by assumption) (Or.inr ⟨by rfl, rfl⟩) (fun _ => rfl) ?_
                              try simp only [Act.put, List.setIfInBounds_toArray, List.set_cons_zero, List.set_cons_succ]
                              refine ordS_take (i := 38) (oi := { dst := some 125, op := Op.fieldAddr 23 (Operand.tmp 124) 0, type := 0, pos := _, after := #[{ on := 37, ground := Ground.data }, { on := 18, ground := Ground.guard }], guard := some (18, true) }) (v := undef) rfl (by kernel_rfl) (by kernel_rfl) (by kernel_rfl) (by kernel_rfl) (fun _ _ _ h => h) (by assumption) (Or.inr ⟨by rfl, rfl⟩) (fun _ => rfl) ?_
                              try simp only [Act.put, List.setIfInBounds_toArray, List.set_cons_zero, List.set_cons_succ]
                              refine ordS_take (i := 39) (oi := { dst := some 126, op := Op.load 3 (Operand.tmp 125), type := 3, pos := _, after := #[{ on := 38, ground := Ground.data }, { on := 18, ground := Ground.guard }], guard := some (18, true) }) (v := undef) rfl (by kernel_rfl) (by kernel_rfl) (by kernel_rfl) (by kernel_rfl) (fun _ _ _ h => h) (by assumption) (Or.inr ⟨by rfl, rfl⟩) (fun _ => rfl) ?_
                              try simp only [Act.put, List.setIfInBounds_toArray, List.set_cons_zero, List.set_cons_succ]
                              refine ordS_take (i := 40) (oi := { dst := some 127, op := Op.binOp BinOp.mul 3 (Operand.tmp 123) (Operand.tmp 126) 3, type := 3, pos := _, after := #[{ on := 36, ground := Ground.data }, { on := 39, ground := Ground.data }, { on := 18, ground := Ground.guard }], guard := some (18, true) }) (v := undef) rfl (by kernel_rfl) (by kernel_rfl) (by kernel_rfl) (by kernel_rfl) (fun _ _ _ h => h) (by assumption) (Or.inr ⟨by rfl, rfl⟩) (fun _ => rfl) ?_
                              try simp only [Act.put, List.setIfInBounds_toArray, List.set_cons_zero, List.set_cons_succ]
                              refine ordS_take (i := 41) (oi := { dst := some 128, op := Op.move (Operand.tmp 12), type := 3, pos := _, after := #[{ on := 18, ground := Ground.guard }], guard := some (18, true) }) (v := undef) rfl (by kernel_rfl) (by kernel_rfl) (by kernel_rfl) (by kernel_rfl) (fun _ _ _ h => h) (by assumption) (Or.inr ⟨by rfl, rfl⟩) (fun _ => rfl) ?_
                              try simp only [Act.put, List.setIfInBounds_toArray, List.set_cons_zero, List.set_cons_succ]
                              refine ordS_take (i := 42) (oi := { dst := some 129, op := Op.binOp BinOp.add 3 (Operand.tmp 127) (Operand.tmp 128) 3, type := 3, pos := _, after := #[{ on := 40, ground := Ground.data }, { on := 41, ground := Ground.data }, { on := 18, ground := Ground.guard }], guard := some (18, true) }) (v := undef) rfl (by kernel_rfl) (by kernel_rfl) (by kernel_rfl) (by kernel_rfl) (fun _ _ _ h => h) (by assumption) (Or.inr ⟨by rfl, rfl⟩) (fun _ => rfl) ?_
                              try simp only [Act.put, List.setIfInBounds_toArray, List.set_cons_zero, List.set_cons_succ]
                              refine ordS_take (i := 43) (oi := { dst := some 130, op := Op.indexAddr 42 (Operand.tmp 122) (Operand.tmp 129), type := 0, pos := _, after := #[{ on := 35, ground := Ground.data }, { on := 42, ground := Ground.data }, { on := 18, ground := Ground.guard }], guard := some (18, true) }) (v := undef) rfl (by kernel_rfl) (by kernel_rfl) (by kernel_rfl) (by kernel_rfl) (fun _ _ _ h => h) (by assumption) (Or.inr ⟨by rfl, rfl⟩) (fun _ => rfl) ?_
                              try simp only [Act.put, List.setIfInBounds_toArray, List.set_cons_zero, List.set_cons_succ]
                              refine ordS_take (i := 44) (oi := { dst := some 131, op := Op.load 36 (Operand.tmp 130), type := 36, pos := _, after := #[{ on := 43, ground := Ground.data }, { on := 18, ground := Ground.guard }], guard := some (18, true) }) (v := undef) rfl (by kernel_rfl) (by kernel_rfl) (by kernel_rfl) (by kernel_rfl) (fun _ _ _ h => h) (by assumption) (Or.inr ⟨by rfl, rfl⟩) (fun _ => rfl) ?_
                              try simp only [Act.put, List.setIfInBounds_toArray, List.set_cons_zero, List.set_cons_succ]
                              refine ordS_skip (i := 33) (o := { dst := some 120, op := Op.call { callee := Callee.value (Operand.func 36), args := #[Operand.tmp 118, Operand.tmp 119], argTypes := #[26, 30] }, type := 36, pos := _, after := #[{ on := 31, ground := Ground.data }, { on := 32, ground := Ground.data }, { on := 18, ground := Ground.chain }, { on := 18, ground := Ground.guard }], guard := some (18, true) }) (by kernel_rfl) rfl (by rfl) (fun _ => trivial) (by assumption) ?_
                              try simp only [Act.put, List.setIfInBounds_toArray, List.set_cons_zero, List.set_cons_succ]
                              refine ordS_take (i := 34) (oi := { dst := some 121, op := Op.binOp BinOp.add 36 (Operand.tmp 117) (Operand.tmp 120) 36, type := 36, pos := _, after := #[{ on := 30, ground := Ground.data }, { on := 33, ground := Ground.data }, { on := 18, ground := Ground.guard }], guard := some (18, true) }) (v := undef) rfl (by kernel_rfl) (by kernel_rfl) (by kernel_rfl) (by kernel_rfl) (fun _ _ _ h => h) (by assumption) (Or.inr ⟨by rfl, rfl⟩) (fun _ => rfl) ?_
                              try simp only [Act.put, List.setIfInBounds_toArray, List.set_cons_zero, List.set_cons_succ]
                              refine ordS_take (i := 45) (oi := { dst := some 132, op := Op.binOp BinOp.lss 36 (Operand.tmp 121) (Operand.tmp 131) 36, type := 4, pos := _, after := #[{ on := 34, ground := Ground.data }, { on := 44, ground := Ground.data }, { on := 18, ground := Ground.guard }], guard := some (18, true) }) (v := undef) rfl (by kernel_rfl) (by kernel_rfl) (by kernel_rfl) (by kernel_rfl) (fun _ _ _ h => h) (by assumption) (Or.inr ⟨by rfl, rfl⟩) (fun _ => rfl) ?_
                              try simp only [Act.put, List.setIfInBounds_toArray, List.set_cons_zero, List.set_cons_succ]
                              refine' ordS_take (i := 46) (oi := { dst := some 133, op := Op.pick (Operand.tmp 105) (Operand.tmp 132) (Operand.const (Value.bool false)), type := 4, pos := _, after := #[{ on := 18, ground := Ground.data }, { on := 45, ground := Ground.data }], guard := none }) (v := _) rfl (by kernel_rfl) (by kernel_rfl) (by kernel_rfl) (by kernel_rfl) (fun _ _ _ h => h) (by assumption) (Or.inl ⟨by rfl, ?hy293⟩) (fun _ => rfl) ?rest293
                              case hy293 => (intro w hSw; (try dsimp only at hSw); go_simp; try with_reducible rfl)
                              try simp only [Act.put, List.setIfInBounds_toArray, List.set_cons_zero, List.set_cons_succ]
                              refine ordS_done (by kernel_rfl) ?_
                              have HI9 := Lib.hid (HI1.out.below hB)
                              have q0 := cell_later hB kp0
                              have q1 := cell_later hB kp1
                              clear hS hS3 hB kp0 kp1 kf0 kf1 kf2 kx0 kx1 kx2 kx3 km0 km1 ku kv zk0 zk1 zk2 zk3 zk4
                              go_wp2
                              go_roundw
                              case rel => exact ⟨d + 1, t, by omega, by go_num, rfl, fun h => by rw [HEQ.out]; exact HTD.out h, by rw [HEQ.out]; exact HI9.out, q0, q1⟩
                              case measure => simp [intOf]; omega
                            · have hvb : (v != 18446744073709551615) = true := by rw [bne_iff_ne]; exact hvi
                              by_cases hlt9 : IntKind.u64.wrap (v + kc) < u
                              · have HLT := Lib.hid (HGV.out.2.2 hvi hlt9)
                                have hdl : decide (IntKind.u64.wrap (v + kc) < u) = true := decide_eq_true hlt9
                                have hB := bl_dr (bl0 W1)
                                have hS : (fun W9 : World => W9.cell? ⟨w.heap.size, 0, none⟩ = some (.int .i64 A) ∧ W9.cell? ⟨w.heap.size, 1, none⟩ = some (.int .i64 B) ∧ W9.cell? ⟨w.heap.size, 2, none⟩ = some (.slice a zs.length cap) ∧ W9.cell? ⟨w.heap.size + 1, 0, none⟩ = some (.int .i64 X) ∧ W9.cell? ⟨w.heap.size + 1, 1, none⟩ = some (.int .i64 Y) ∧ W9.cell? ⟨w.heap.size + 1, 2, none⟩ = some (.int .i64 U) ∧ W9.cell? ⟨w.heap.size + 1, 3, none⟩ = some (.int .i64 V) ∧ W9.cell? ⟨cp, 0, none⟩ = some (.int .i64 x) ∧ W9.cell? ⟨cp, 1, none⟩ = some (.int .i64 y) ∧ W9.cell? ⟨mp, 0, none⟩ = some (.int .i64 M.1) ∧ W9.cell? ⟨mp, 1, none⟩ = some (.int .i64 M.2) ∧ W9.cell? ⟨w.heap.size + 1 + 1 + 1, mi, none⟩ = some (.int .u64 v) ∧ W9.cell? ⟨w.heap.size + 1 + 1 + 1, ci, none⟩ = some (.int .u64 u)) W1.drew := ⟨cell_later hB kf0, cell_later hB kf1, cell_later hB kf2, cell_later hB kx0, cell_later hB kx1, cell_later hB kx2, cell_later hB kx3, cell_later hB kp0, cell_later hB kp1, cell_later hB km0, cell_later hB km1, cell_later hB kv, cell_later hB ku⟩
                                refine (wpIn_wide (n := 11)).1 ?_
                                refine ordS_begin (S := (fun W9 : World => W9.cell? ⟨w.heap.size, 0, none⟩ = some (.int .i64 A) ∧ W9.cell? ⟨w.heap.size, 1, none⟩ = some (.int .i64 B) ∧ W9.cell? ⟨w.heap.size, 2, none⟩ = some (.slice a zs.length cap) ∧ W9.cell? ⟨w.heap.size + 1, 0, none⟩ = some (.int .i64 X) ∧ W9.cell? ⟨w.heap.size + 1, 1, none⟩ = some (.int .i64 Y) ∧ W9.cell? ⟨w.heap.size + 1, 2, none⟩ = some (.int .i64 U) ∧ W9.cell? ⟨w.heap.size + 1, 3, none⟩ = some (.int .i64 V) ∧ W9.cell? ⟨cp, 0, none⟩ = some (.int .i64 x) ∧ W9.cell? ⟨cp, 1, none⟩ = some (.int .i64 y) ∧ W9.cell? ⟨mp, 0, none⟩ = some (.int .i64 M.1) ∧ W9.cell? ⟨mp, 1, none⟩ = some (.int .i64 M.2) ∧ W9.cell? ⟨w.heap.size + 1 + 1 + 1, mi, none⟩ = some (.int .u64 v) ∧ W9.cell? ⟨w.heap.size + 1 + 1 + 1, ci, none⟩ = some (.int .u64 u))) (by kernel_rfl) hS (fun hH => ?_)
                                refine' ordS_take (i := 0) (oi := { dst := some 87, op := Op.load 28 (Operand.tmp 4), type := 28, pos := _, after := #[], guard := none }) (v := _) rfl (by kernel_rfl) (by kernel_rfl) (by kernel_rfl) (by kernel_rfl) (fun _ _ _ h => h) (by assumption) (Or.inl ⟨by rfl, ?hy294⟩) (fun _ => rfl) ?rest294
                                case hy294 => (intro w hSw; (try dsimp only at hSw); go_simp; try with_reducible rfl)
                                try simp only [Act.put, List.setIfInBounds_toArray, List.set_cons_zero, List.set_cons_succ]
                                refine' ordS_take (i := 1) (oi := { dst := some 88, op := Op.load 30 (Operand.tmp 15), type := 30, pos := _, after := #[], guard := none }) (v := _) rfl (by kernel_rfl) (by kernel_rfl) (by kernel_rfl) (by kernel_rfl) (fun _ _ _ h => h) (by assumption) (Or.inl ⟨by rfl, ?hy295⟩) (fun _ => rfl) ?rest295
                                case hy295 => (intro w hSw; (try dsimp only at hSw); go_simp; try with_reducible rfl)
                                try simp only [Act.put, List.setIfInBounds_toArray, List.set_cons_zero, List.set_cons_succ]
                                obtain ⟨W2, hW2⟩ : ∃ W2, W1.drew = W2 := ⟨_, rfl⟩
                                rw [hW2] at hB hS
                                rw [hW2]
                                clear hW2 hH
                                refine ordS_one (i := 2) (o := { dst := some 89, op := Op.call { callee := Callee.value (Operand.func 11), args := #[Operand.tmp 87, Operand.tmp 88], argTypes := #[28, 30] }, type := 4, pos := _, after := #[{ on := 0, ground := Ground.data }, { on := 1, ground := Ground.data }], guard := none }) (by kernel_rfl) rfl (by rfl) (fun K hK => ?_)
                                go_simp
                                refine ⟨trivial, ?_⟩
                                with_reducible refine (callsIn_wide.2 (HHB.out _)).mono ?_
                                rintro e W3 ⟨rfl, hbW3⟩
                                replace hB := bl_tr hB hbW3
                                have hS3 : (fun W9 : World => W9.cell? ⟨w.heap.size, 0, none⟩ = some (.int .i64 A) ∧ W9.cell? ⟨w.heap.size, 1, none⟩ = some (.int .i64 B) ∧ W9.cell? ⟨w.heap.size, 2, none⟩ = some (.slice a zs.length cap) ∧ W9.cell? ⟨w.heap.size + 1, 0, none⟩ = some (.int .i64 X) ∧ W9.cell? ⟨w.heap.size + 1, 1, none⟩ = some (.int .i64 Y) ∧ W9.cell? ⟨w.heap.size + 1, 2, none⟩ = some (.int .i64 U) ∧ W9.cell? ⟨w.heap.size + 1, 3, none⟩ = some (.int .i64 V) ∧ W9.cell? ⟨cp, 0, none⟩ = some (.int .i64 x) ∧ W9.cell? ⟨cp, 1, none⟩ = some (.int .i64 y) ∧ W9.cell? ⟨mp, 0, none⟩ = some (.int .i64 M.1) ∧ W9.cell? ⟨mp, 1, none⟩ = some (.int .i64 M.2) ∧ W9.cell? ⟨w.heap.size + 1 + 1 + 1, mi, none⟩ = some (.int .u64 v) ∧ W9.cell? ⟨w.heap.size + 1 + 1 + 1, ci, none⟩ = some (.int .u64 u)) W3 := ⟨cell_later hbW3 hS.1, cell_later hbW3 hS.2.1, cell_later hbW3 hS.2.2.1, cell_later hbW3 hS.2.2.2.1, cell_later hbW3 hS.2.2.2.2.1, cell_later hbW3 hS.2.2.2.2.2.1, cell_later hbW3 hS.2.2.2.2.2.2.1, cell_later hbW3 hS.2.2.2.2.2.2.2.1, cell_later hbW3 hS.2.2.2.2.2.2.2.2.1, cell_later hbW3 hS.2.2.2.2.2.2.2.2.2.1, cell_later hbW3 hS.2.2.2.2.2.2.2.2.2.2.1, cell_later hbW3 hS.2.2.2.2.2.2.2.2.2.2.2.1, cell_later hbW3 hS.2.2.2.2.2.2.2.2.2.2.2.2⟩
                                refine hK _ _ hS3 ?_
                                clear hK K
                                try simp only [Act.put, List.setIfInBounds_toArray, List.set_cons_zero, List.set_cons_succ]
                                refine' ordS_take (i := 3) (oi := { dst := some 90, op := Op.move (Operand.tmp 89), type := 4, pos := _, after := #[{ on := 2, ground := Ground.data }, { on := 2, ground := Ground.chain }], guard := none }) (v := _) rfl (by kernel_rfl) (by kernel_rfl) (by kernel_rfl) (by kernel_rfl) (fun _ _ _ h => h) (by assumption) (Or.inl ⟨by rfl, ?hy296⟩) (fun _ => rfl) ?rest296
                                case hy296 => (intro w hSw; (try dsimp only at hSw); go_simp; try with_reducible rfl)
                                try simp only [Act.put, List.setIfInBounds_toArray, List.set_cons_zero, List.set_cons_succ]
                                refine' ordS_take (i := 4) (oi := { dst := some 91, op := Op.move (Operand.tmp 7), type := 42, pos := _, after := #[{ on := 3, ground := Ground.guard }], guard := some (3, true) }) (v := _) rfl (by kernel_rfl) (by kernel_rfl) (by kernel_rfl) (by kernel_rfl) (fun _ _ _ h => h) (by assumption) (Or.inl ⟨by rfl, ?hy297⟩) (fun _ => rfl) ?rest297
                                case hy297 => (intro w hSw; (try dsimp only at hSw); go_simp; try with_reducible rfl)
                                try simp only [Act.put, List.setIfInBounds_toArray, List.set_cons_zero, List.set_cons_succ]
                                refine' ordS_take (i := 5) (oi := { dst := some 92, op := Op.fieldAddr 30 (Operand.tmp 15) 1, type := 0, pos := _, after := #[{ on := 3, ground := Ground.guard }], guard := some (3, true) }) (v := _) rfl (by kernel_rfl) (by kernel_rfl) (by kernel_rfl) (by kernel_rfl) (fun _ _ _ h => h) (by assumption) (Or.inl ⟨by rfl, ?hy298⟩) (fun _ => rfl) ?rest298
                                case hy298 => (intro w hSw; (try dsimp only at hSw); go_simp; try with_reducible rfl)
                                try simp only [Act.put, List.setIfInBounds_toArray, List.set_cons_zero, List.set_cons_succ]
                                refine' ordS_take (i := 6) (oi := { dst := some 93, op := Op.load 3 (Operand.tmp 92), type := 3, pos := _, after := #[{ on := 5, ground := Ground.data }, { on := 3, ground := Ground.guard }], guard := some (3, true) }) (v := _) rfl (by kernel_rfl) (by kernel_rfl) (by kernel_rfl) (by kernel_rfl) (fun _ _ _ h => h) (by assumption) (Or.inl ⟨by rfl, ?hy299⟩) (fun _ => rfl) ?rest299
                                case hy299 => (intro w hSw; (try dsimp only at hSw); go_simp; try with_reducible rfl)
                                try simp only [Act.put, List.setIfInBounds_toArray, List.set_cons_zero, List.set_cons_succ]
                                refine' ordS_take (i := 7) (oi := { dst := some 94, op := Op.fieldAddr 26 (Operand.tmp 3) 0, type := 0, pos := _, after := #[{ on := 3, ground := Ground.guard }], guard := some (3, true) }) (v := _) rfl (by kernel_rfl) (by kernel_rfl) (by kernel_rfl) (by kernel_rfl) (fun _ _ _ h => h) (by assumption) (Or.inl ⟨by rfl, ?hy300⟩) (fun _ => rfl) ?rest300
                                case hy300 => (intro w hSw; (try dsimp only at hSw); go_simp; try with_reducible rfl)
                                try simp only [Act.put, List.setIfInBounds_toArray, List.set_cons_zero, List.set_cons_succ]
                                refine' ordS_take (i := 8) (oi := { dst := some 95, op := Op.fieldAddr 23 (Operand.tmp 94) 0, type := 0, pos := _, after := #[{ on := 7, ground := Ground.data }, { on := 3, ground := Ground.guard }], guard := some (3, true) }) (v := _) rfl (by kernel_rfl) (by kernel_rfl) (by kernel_rfl) (by kernel_rfl) (fun _ _ _ h => h) (by assumption) (Or.inl ⟨by rfl, ?hy301⟩) (fun _ => rfl) ?rest301
                                case hy301 => (intro w hSw; (try dsimp only at hSw); go_simp; try with_reducible rfl)
                                try simp only [Act.put, List.setIfInBounds_toArray, List.set_cons_zero, List.set_cons_succ]
                                refine' ordS_take (i := 9) (oi := { dst := some 96, op := Op.load 3 (Operand.tmp 95), type := 3, pos := _, after := #[{ on := 8, ground := Ground.data }, { on := 3, ground := Ground.guard }], guard := some (3, true) }) (v := _) rfl (by kernel_rfl) (by kernel_rfl) (by kernel_rfl) (by kernel_rfl) (fun _ _ _ h => h) (by assumption) (Or.inl ⟨by rfl, ?hy302⟩) (fun _ => rfl) ?rest302
                                case hy302 => (intro w hSw; (try dsimp only at hSw); go_simp; try with_reducible rfl)
                                try simp only [Act.put, List.setIfInBounds_toArray, List.set_cons_zero, List.set_cons_succ]
                                refine' ordS_take (i := 10) (oi := { dst := some 97, op := Op.binOp BinOp.mul 3 (Operand.tmp 93) (Operand.tmp 96) 3, type := 3, pos := _, after := #[{ on := 6, ground := Ground.data }, { on := 9, ground := Ground.data }, { on := 3, ground := Ground.guard }], guard := some (3, true) }) (v := _) rfl (by kernel_rfl) (by kernel_rfl) (by kernel_rfl) (by kernel_rfl) (fun _ _ _ h => h) (by assumption) (Or.inl ⟨by rfl, ?hy303⟩) (fun _ => rfl) ?rest303
                                case hy303 => (intro w hSw; (try dsimp only at hSw); go_simp; try with_reducible rfl)
                                try simp only [Act.put, List.setIfInBounds_toArray, List.set_cons_zero, List.set_cons_succ]
                                refine' ordS_take (i := 11) (oi := { dst := some 98, op := Op.fieldAddr 30 (Operand.tmp 15) 0, type := 0, pos := _, after := #[{ on := 3, ground := Ground.guard }], guard := some (3, true) }) (v := _) rfl (by kernel_rfl) (by kernel_rfl) (by kernel_rfl) (by kernel_rfl) (fun _ _ _ h => h) (by assumption) (Or.inl ⟨by rfl, ?hy304⟩) (fun _ => rfl) ?rest304
                                case hy304 => (intro w hSw; (try dsimp only at hSw); go_simp; try with_reducible rfl)
                                try simp only [Act.put, List.setIfInBounds_toArray, List.set_cons_zero, List.set_cons_succ]
                                refine' ordS_take (i := 12) (oi := { dst := some 99, op := Op.load 3 (Operand.tmp 98), type := 3, pos := _, after := #[{ on := 11, ground := Ground.data }, { on := 3, ground := Ground.guard }], guard := some (3, true) }) (v := _) rfl (by kernel_rfl) (by kernel_rfl) (by kernel_rfl) (by kernel_rfl) (fun _ _ _ h => h) (by assumption) (Or.inl ⟨by rfl, ?hy305⟩) (fun _ => rfl) ?rest305
                                case hy305 => (intro w hSw; (try dsimp only at hSw); go_simp; try with_reducible rfl)
                                try simp only [Act.put, List.setIfInBounds_toArray, List.set_cons_zero, List.set_cons_succ]
                                refine' ordS_take (i := 13) (oi := { dst := some 100, op := Op.binOp BinOp.add 3 (Operand.tmp 97) (Operand.tmp 99) 3, type := 3, pos := _, after := #[{ on := 10, ground := Ground.data }, { on := 12, ground := Ground.data }, { on := 3, ground := Ground.guard }], guard := some (3, true) }) (v := _) rfl (by kernel_rfl) (by kernel_rfl) (by kernel_rfl) (by kernel_rfl) (fun _ _ _ h => h) (by assumption) (Or.inl ⟨by rfl, ?hy306⟩) (fun _ => rfl) ?rest306
                                case hy306 => (intro w hSw; (try dsimp only at hSw); go_simp; try with_reducible rfl)
                                try simp only [Act.put, List.setIfInBounds_toArray, List.set_cons_zero, List.set_cons_succ]
                                refine' ordS_take (i := 14) (oi := { dst := some 101, op := Op.indexAddr 42 (Operand.tmp 91) (Operand.tmp 100), type := 0, pos := _, after := #[{ on := 4, ground := Ground.data }, { on := 13, ground := Ground.data }, { on := 3, ground := Ground.guard }], guard := some (3, true) }) (v := _) rfl (by kernel_rfl) (by kernel_rfl) (by kernel_rfl) (by kernel_rfl) (fun _ _ _ h => h) (by assumption) (Or.inl ⟨by rfl, ?hy307⟩) (fun _ => rfl) ?rest307
                                case hy307 => (intro w hSw; (try dsimp only at hSw); go_simp; try with_reducible rfl)
                                try simp only [Act.put, List.setIfInBounds_toArray, List.set_cons_zero, List.set_cons_succ]
                                refine' ordS_take (i := 15) (oi := { dst := some 102, op := Op.load 36 (Operand.tmp 101), type := 36, pos := _, after := #[{ on := 14, ground := Ground.data }, { on := 3, ground := Ground.guard }], guard := some (3, true) }) (v := _) rfl (by kernel_rfl) (by kernel_rfl) (by kernel_rfl) (by kernel_rfl) (fun _ _ _ h => h) (by assumption) (Or.inl ⟨by rfl, ?hy308⟩) (fun _ => rfl) ?rest308
                                case hy308 => (intro w hSw; (try dsimp only at hSw); go_simp; try with_reducible rfl)
                                try simp only [Act.put, List.setIfInBounds_toArray, List.set_cons_zero, List.set_cons_succ]
                                refine' ordS_take (i := 16) (oi := { dst := some 103, op := Op.binOp BinOp.neq 36 (Operand.tmp 102) (Operand.const (Value.int IntKind.u64 18446744073709551615)) 36, type := 4, pos := _, after := #[{ on := 15, ground := Ground.data }, { on := 3, ground := Ground.guard }], guard := some (3, true) }) (v := _) rfl (by kernel_rfl) (by kernel_rfl) (by kernel_rfl) (by kernel_rfl) (fun _ _ _ h => h) (by assumption) (Or.inl ⟨by rfl, ?hy309⟩) (fun _ => rfl) ?rest309
                                case hy309 => (intro w hSw; (try dsimp only at hSw); go_simp; try with_reducible rfl)
                                try simp only [Act.put, List.setIfInBounds_toArray, List.set_cons_zero, List.set_cons_succ]
                                refine' ordS_take (i := 17) (oi := { dst := some 104, op := Op.pick (Operand.tmp 90) (Operand.tmp 103) (Operand.const (Value.bool false)), type := 4, pos := _, after := #[{ on := 3, ground := Ground.data }, { on := 16, ground := Ground.data }], guard := none }) (v := _) rfl (by kernel_rfl) (by kernel_rfl) (by kernel_rfl) (by kernel_rfl) (fun _ _ _ h => h) (by assumption) (Or.inl ⟨by rfl, ?hy310⟩) (fun _ => rfl) ?rest310
                                case hy310 => (intro w hSw; (try dsimp only at hSw); go_simp; try with_reducible rfl)
                                try simp only [Act.put, List.setIfInBounds_toArray, List.set_cons_zero, List.set_cons_succ]
                                refine' ordS_take (i := 18) (oi := { dst := some 105, op := Op.move (Operand.tmp 104), type := 4, pos := _, after := #[{ on := 17, ground := Ground.data }, { on := 3, ground := Ground.chain }], guard := none }) (v := _) rfl (by kernel_rfl) (by kernel_rfl) (by kernel_rfl) (by kernel_rfl) (fun _ _ _ h => h) (by assumption) (Or.inl ⟨by rfl, ?hy311⟩) (fun _ => rfl) ?rest311
                                case hy311 => (intro w hSw; (try dsimp only at hSw); go_simp; try with_reducible rfl)
                                try simp only [Act.put, List.setIfInBounds_toArray, List.set_cons_zero, List.set_cons_succ]
                                refine' ordS_take (i := 19) (oi := { dst := some 106, op := Op.move (Operand.tmp 7), type := 42, pos := _, after := #[{ on := 18, ground := Ground.guard }], guard := some (18, true) }) (v := _) rfl (by kernel_rfl) (by kernel_rfl) (by kernel_rfl) (by kernel_rfl) (fun _ _ _ h => h) (by assumption) (Or.inl ⟨by rfl, ?hy312⟩) (fun _ => rfl) ?rest312
                                case hy312 => (intro w hSw; (try dsimp only at hSw); go_simp; try with_reducible rfl)
                                try simp only [Act.put, List.setIfInBounds_toArray, List.set_cons_zero, List.set_cons_succ]
                                refine' ordS_take (i := 20) (oi := { dst := some 107, op := Op.fieldAddr 30 (Operand.tmp 15) 1, type := 0, pos := _, after := #[{ on := 18, ground := Ground.guard }], guard := some (18, true) }) (v := _) rfl (by kernel_rfl) (by kernel_rfl) (by kernel_rfl) (by kernel_rfl) (fun _ _ _ h => h) (by assumption) (Or.inl ⟨by rfl, ?hy313⟩) (fun _ => rfl) ?rest313
                                case hy313 => (intro w hSw; (try dsimp only at hSw); go_simp; try with_reducible rfl)
                                try simp only [Act.put, List.setIfInBounds_toArray, List.set_cons_zero, List.set_cons_succ]
                                refine' ordS_take (i := 21) (oi := { dst := some 108, op := Op.load 3 (Operand.tmp 107), type := 3, pos := _, after := #[{ on := 20, ground := Ground.data }, { on := 18, ground := Ground.guard }], guard := some (18, true) }) (v := _) rfl (by kernel_rfl) (by kernel_rfl) (by kernel_rfl) (by kernel_rfl) (fun _ _ _ h => h) (by assumption) (Or.inl ⟨by rfl, ?hy314⟩) (fun _ => rfl) ?rest314
                                case hy314 => (intro w hSw; (try dsimp only at hSw); go_simp; try with_reducible rfl)
                                try simp only [Act.put, List.setIfInBounds_toArray, List.set_cons_zero, List.set_cons_succ]
                                refine' ordS_take (i := 22) (oi := { dst := some 109, op := Op.fieldAddr 26 (Operand.tmp 3) 0, type := 0, pos := _, after := #[{ on := 18, ground := Ground.guard }], guard := some (18, true) }) (v := _) rfl (by kernel_rfl) (by kernel_rfl) (by kernel_rfl) (by kernel_rfl) (fun _ _ _ h => h) (by assumption) (Or.inl ⟨by rfl, ?hy315⟩) (fun _ => rfl) ?rest315
                                case hy315 => (intro w hSw; (try dsimp only at hSw); go_simp; try with_reducible rfl)
                                try simp only [Act.put, List.setIfInBounds_toArray, List.set_cons_zero, List.set_cons_succ]
                                refine' ordS_take (i := 23) (oi := { dst := some 110, op := Op.fieldAddr 23 (Operand.tmp 109) 0, type := 0, pos := _, after := #[{ on := 22, ground := Ground.data }, { on := 18, ground := Ground.guard }], guard := some (18, true) }) (v := _) rfl (by kernel_rfl) (by kernel_rfl) (by kernel_rfl) (by kernel_rfl) (fun _ _ _ h => h) (by assumption) (Or.inl ⟨by rfl, ?hy316⟩) (fun _ => rfl) ?rest316
                                case hy316 => (intro w hSw; (try dsimp only at hSw); go_simp; try with_reducible rfl)
                                try simp only [Act.put, List.setIfInBounds_toArray, List.set_cons_zero, List.set_cons_succ]
                                refine' ordS_take (i := 24) (oi := { dst := some 111, op := Op.load 3 (Operand.tmp 110), type := 3, pos := _, after := #[{ on := 23, ground := Ground.data }, { on := 18, ground := Ground.guard }], guard := some (18, true) }) (v := _) rfl (by kernel_rfl) (by kernel_rfl) (by kernel_rfl) (by kernel_rfl) (fun _ _ _ h => h) (by assumption) (Or.inl ⟨by rfl, ?hy317⟩) (fun _ => rfl) ?rest317
                                case hy317 => (intro w hSw; (try dsimp only at hSw); go_simp; try with_reducible rfl)
                                try simp only [Act.put, List.setIfInBounds_toArray, List.set_cons_zero, List.set_cons_succ]
                                refine' ordS_take (i := 25) (oi := { dst := some 112, op := Op.binOp BinOp.mul 3 (Operand.tmp 108) (Operand.tmp 111) 3, type := 3, pos := _, after := #[{ on := 21, ground := Ground.data }, { on := 24, ground := Ground.data }, { on := 18, ground := Ground.guard }], guard := some (18, true) }) (v := _) rfl (by kernel_rfl) (by kernel_rfl) (by kernel_rfl) (by kernel_rfl) (fun _ _ _ h => h) (by assumption) (Or.inl ⟨by rfl, ?hy318⟩) (fun _ => rfl) ?rest318
                                case hy318 => (intro w hSw; (try dsimp only at hSw); go_simp; try with_reducible rfl)
                                try simp only [Act.put, List.setIfInBounds_toArray, List.set_cons_zero, List.set_cons_succ]
                                refine' ordS_take (i := 26) (oi := { dst := some 113, op := Op.fieldAddr 30 (Operand.tmp 15) 0, type := 0, pos := _, after := #[{ on := 18, ground := Ground.guard }], guard := some (18, true) }) (v := _) rfl (by kernel_rfl) (by kernel_rfl) (by kernel_rfl) (by kernel_rfl) (fun _ _ _ h => h) (by assumption) (Or.inl ⟨by rfl, ?hy319⟩) (fun _ => rfl) ?rest319
                                case hy319 => (intro w hSw; (try dsimp only at hSw); go_simp; try with_reducible rfl)
                                try simp only [Act.put, List.setIfInBounds_toArray, List.set_cons_zero, List.set_cons_succ]
                                refine' ordS_take (i := 27) (oi := { dst := some 114, op := Op.load 3 (Operand.tmp 113), type := 3, pos := _, after := #[{ on := 26, ground := Ground.data }, { on := 18, ground := Ground.guard }], guard := some (18, true) }) (v := _) rfl (by kernel_rfl) (by kernel_rfl) (by kernel_rfl) (by kernel_rfl) (fun _ _ _ h => h) (by assumption) (Or.inl ⟨by rfl, ?hy320⟩) (fun _ => rfl) ?rest320
                                case hy320 => (intro w hSw; (try dsimp only at hSw); go_simp; try with_reducible rfl)
                                try simp only [Act.put, List.setIfInBounds_toArray, List.set_cons_zero, List.set_cons_succ]
                                refine' ordS_take (i := 28) (oi := { dst := some 115, op := Op.binOp BinOp.add 3 (Operand.tmp 112) (Operand.tmp 114) 3, type := 3, pos := _, after := #[{ on := 25, ground := Ground.data }, { on := 27, ground := Ground.data }, { on := 18, ground := Ground.guard }], guard := some (18, true) }) (v := _) rfl (by kernel_rfl) (by kernel_rfl) (by kernel_rfl) (by kernel_rfl) (fun _ _ _ h => h) (by assumption) (Or.inl ⟨by rfl, ?hy321⟩) (fun _ => rfl) ?rest321
                                case hy321 => (intro w hSw; (try dsimp only at hSw); go_simp; try with_reducible rfl)
                                try simp only [Act.put, List.setIfInBounds_toArray, List.set_cons_zero, List.set_cons_succ]
                                refine' ordS_take (i := 29) (oi := { dst := some 116, op := Op.indexAddr 42 (Operand.tmp 106) (Operand.tmp 115), type := 0, pos := _, after := #[{ on := 19, ground := Ground.data }, { on := 28, ground := Ground.data }, { on := 18, ground := Ground.guard }], guard := some (18, true) }) (v := _) rfl (by kernel_rfl) (by kernel_rfl) (by kernel_rfl) (by kernel_rfl) (fun _ _ _ h => h) (by assumption) (Or.inl ⟨by rfl, ?hy322⟩) (fun _ => rfl) ?rest322
                                case hy322 => (intro w hSw; (try dsimp only at hSw); go_simp; try with_reducible rfl)
                                try simp only [Act.put, List.setIfInBounds_toArray, List.set_cons_zero, List.set_cons_succ]
                                refine' ordS_take (i := 30) (oi := { dst := some 117, op := Op.load 36 (Operand.tmp 116), type := 36, pos := _, after := #[{ on := 29, ground := Ground.data }, { on := 18, ground := Ground.guard }], guard := some (18, true) }) (v := _) rfl (by kernel_rfl) (by kernel_rfl) (by kernel_rfl) (by kernel_rfl) (fun _ _ _ h => h) (by assumption) (Or.inl ⟨by rfl, ?hy323⟩) (fun _ => rfl) ?rest323
                                case hy323 => (intro w hSw; (try dsimp only at hSw); go_simp; try with_reducible rfl)
                                try simp only [Act.put, List.setIfInBounds_toArray, List.set_cons_zero, List.set_cons_succ]
                                refine' ordS_take (i := 31) (oi := { dst := some 118, op := Op.load 26 (Operand.tmp 3), type := 26, pos := _, after := #[{ on := 18, ground := Ground.guard }], guard := some (18, true) }) (v := _) rfl (by kernel_rfl) (by kernel_rfl) (by kernel_rfl) (by kernel_rfl) (fun _ _ _ h => h) (by assumption) (Or.inl ⟨by rfl, ?hy324⟩) (fun _ => rfl) ?rest324
                                case hy324 => (intro w hSw; (try dsimp only at hSw); go_simp; try with_reducible rfl)
                                try simp only [Act.put, List.setIfInBounds_toArray, List.set_cons_zero, List.set_cons_succ]
                                refine' ordS_take (i := 32) (oi := { dst := some 119, op := Op.load 30 (Operand.tmp 13), type := 30, pos := _, after := #[{ on := 18, ground := Ground.guard }], guard := some (18, true) }) (v := _) rfl (by kernel_rfl) (by kernel_rfl) (by kernel_rfl) (by kernel_rfl) (fun _ _ _ h => h) (by assumption) (Or.inl ⟨by rfl, ?hy325⟩) (fun _ => rfl) ?rest325
                                case hy325 => (intro w hSw; (try dsimp only at hSw); go_simp; try with_reducible rfl)
                                try simp only [Act.put, List.setIfInBounds_toArray, List.set_cons_zero, List.set_cons_succ]
                                refine' ordS_take (i := 35) (oi := { dst := some 122, op := Op.move (Operand.tmp 7), type := 42, pos := _, after := #[{ on := 18, ground := Ground.guard }], guard := some (18, true) }) (v := _) rfl (by kernel_rfl) (by kernel_rfl) (by kernel_rfl) (by kernel_rfl) (fun _ _ _ h => h) (by assumption) (Or.inl ⟨by rfl, ?hy326⟩) (fun _ => rfl) ?rest326
                                case hy326 => (intro w hSw; (try dsimp only at hSw); go_simp; try with_reducible rfl)
                                try simp only [Act.put, List.setIfInBounds_toArray, List.set_cons_zero, List.set_cons_succ]
                                refine' ordS_take (i := 36) (oi := { dst := some 123, op := Op.move (Operand.tmp 11), type := 3, pos := _, after := #[{ on := 18, ground := Ground.guard }], guard := some (18, true) }) (v := _) rfl (by kernel_rfl) (by kernel_rfl) (by kernel_rfl) (by kernel_rfl) (fun _ _ _ h => h) (by assumption) (Or.inl ⟨by rfl, ?hy327⟩) (fun _ => rfl) ?rest327
                                case hy327 => (intro w hSw; (try dsimp only at hSw); go_simp; try with_reducible rfl)
                                try simp only [Act.put, List.setIfInBounds_toArray, List.set_cons_zero, List.set_cons_succ]
                                refine' ordS_take (i := 37) (oi := { dst := some 124, op := Op.fieldAddr 26 (Operand.tmp 3) 0, type := 0, pos := _, after := #[{ on := 18, ground := Ground.guard }], guard := some (18, true) }) (v := _) rfl (by kernel_rfl) (by kernel_rfl) (by kernel_rfl) (by kernel_rfl) (fun _ _ _ h => h) (by assumption) (Or.inl ⟨by rfl, ?hy328⟩) (fun _ => rfl) ?rest328
                                case hy328 => (intro w hSw; (try dsimp only at hSw); go_simp; try with_reducible rfl)
                                try simp only [Act.put, List.setIfInBounds_toArray, List.set_cons_zero, List.set_cons_succ]
                                refine' ordS_take (i := 38) (oi := { dst := some 125, op := Op.fieldAddr 23 (Operand.tmp 124) 0, type := 0, pos := _, after := #[{ on := 37, ground := Ground.data }, { on := 18, ground := Ground.guard }], guard := some (18, true) }) (v := _) rfl (by kernel_rfl) (by kernel_rfl) (by kernel_rfl) (by kernel_rfl) (fun _ _ _ h => h) (by assumption) (Or.inl ⟨by rfl, ?hy329⟩) (fun _ => rfl) ?rest329
                                case hy329 => (intro w hSw; (try dsimp only at hSw); go_simp; try with_reducible rfl)
                                try simp only [Act.put, List.setIfInBounds_toArray, List.set_cons_zero, List.set_cons_succ]
                                refine' ordS_take (i := 39) (oi := { dst := some 126, op := Op.load 3 (Operand.tmp 125), type := 3, pos := _, after := #[{ on := 38, ground := Ground.data }, { on := 18, ground := Ground.guard }], guard := some (18, true) }) (v := _) rfl (by kernel_rfl) (by kernel_rfl) (by kernel_rfl) (by kernel_rfl) (fun _ _ _ h => h) (by assumption) (Or.inl ⟨by rfl, ?hy330⟩) (fun _ => rfl) ?rest330
                                case hy330 => (intro w hSw; (try dsimp only at hSw); go_simp; try with_reducible rfl)
                                try simp only [Act.put, List.setIfInBounds_toArray, List.set_cons_zero, List.set_cons_succ]
                                refine' ordS_take (i := 40) (oi := { dst := some 127, op := Op.binOp BinOp.mul 3 (Operand.tmp 123) (Operand.tmp 126) 3, type := 3, pos := _, after := #[{ on := 36, ground := Ground.data }, { on := 39, ground := Ground.data }, { on := 18, ground := Ground.guard }], guard := some (18, true) }) (v := _) rfl (by kernel_rfl) (by kernel_rfl) (by kernel_rfl) (by kernel_rfl) (fun _ _ _ h => h) (by assumption) (Or.inl ⟨by rfl, ?hy331⟩) (fun _ => rfl) ?rest331
                                case hy331 => (intro w hSw; (try dsimp only at hSw); go_simp; try with_reducible rfl)
                                try simp only [Act.put, List.setIfInBounds_toArray, List.set_cons_zero, List.set_cons_succ]
                                refine' ordS_take (i := 41) (oi := { dst := some 128, op := Op.move (Operand.tmp 12), type := 3, pos := _, after := #[{ on := 18, ground := Ground.guard }], guard := some (18, true) }) (v := _) rfl (by kernel_rfl) (by kernel_rfl) (by kernel_rfl) (by kernel_rfl) (fun _ _ _ h => h) (by assumption) (Or.inl ⟨by rfl, ?hy332⟩) (fun _ => rfl) ?rest332
                                case hy332 => (intro w hSw; (try dsimp only at hSw); go_simp; try with_reducible rfl)
                                try simp only [Act.put, List.setIfInBounds_toArray, List.set_cons_zero, List.set_cons_succ]
                                refine' ordS_take (i := 42) (oi := { dst := some 129, op := Op.binOp BinOp.add 3 (Operand.tmp 127) (Operand.tmp 128) 3, type := 3, pos := _, after := #[{ on := 40, ground := Ground.data }, { on := 41, ground := Ground.data }, { on := 18, ground := Ground.guard }], guard := some (18, true) }) (v := _) rfl (by kernel_rfl) (by kernel_rfl) (by kernel_rfl) (by kernel_rfl) (fun _ _ _ h => h) (by assumption) (Or.inl ⟨by rfl, ?hy333⟩) (fun _ => rfl) ?rest333
                                case hy333 => (intro w hSw; (try dsimp only at hSw); go_simp; try with_reducible rfl)
                                try simp only [Act.put, List.setIfInBounds_toArray, List.set_cons_zero, List.set_cons_succ]
                                refine' ordS_take (i := 43) (oi := { dst := some 130, op := Op.indexAddr 42 (Operand.tmp 122) (Operand.tmp 129), type := 0, pos := _, after := #[{ on := 35, ground := Ground.data }, { on := 42, ground := Ground.data }, { on := 18, ground := Ground.guard }], guard := some (18, true) }) (v := _) rfl (by kernel_rfl) (by kernel_rfl) (by kernel_rfl) (by kernel_rfl) (fun _ _ _ h => h) (by assumption) (Or.inl ⟨by rfl, ?hy334⟩) (fun _ => rfl) ?rest334
                                case hy334 => (intro w hSw; (try dsimp only at hSw); go_simp; try with_reducible rfl)
                                try simp only [Act.put, List.setIfInBounds_toArray, List.set_cons_zero, List.set_cons_succ]
                                refine' ordS_take (i := 44) (oi := { dst := some 131, op := Op.load 36 (Operand.tmp 130), type := 36, pos := _, after := #[{ on := 43, ground := Ground.data }, { on := 18, ground := Ground.guard }], guard := some (18, true) }) (v := _) rfl (by kernel_rfl) (by kernel_rfl) (by kernel_rfl) (by kernel_rfl) (fun _ _ _ h => h) (by assumption) (Or.inl ⟨by rfl, ?hy335⟩) (fun _ => rfl) ?rest335
                                case hy335 => (intro w hSw; (try dsimp only at hSw); go_simp; try with_reducible rfl)
                                try simp only [Act.put, List.setIfInBounds_toArray, List.set_cons_zero, List.set_cons_succ]
                                refine ordS_one (i := 33) (o := { dst := some 120, op := Op.call { callee := Callee.value (Operand.func 36), args := #[Operand.tmp 118, Operand.tmp 119], argTypes := #[26, 30] }, type := 36, pos := _, after := #[{ on := 31, ground := Ground.data }, { on := 32, ground := Ground.data }, { on := 18, ground := Ground.chain }, { on := 18, ground := Ground.guard }], guard := some (18, true) }) (by kernel_rfl) rfl (by rfl) (fun K hK => ?_)
                                go_simp
                                refine ⟨trivial, ?_⟩
                                with_reducible refine (callsIn_wide.2 (HCC.out _ (HRW.out _ hB))).mono ?_
                                rintro e W4 ⟨rfl, hbW4⟩
                                replace hB := bl_tr hB hbW4
                                have hS4 : (fun W9 : World => W9.cell? ⟨w.heap.size, 0, none⟩ = some (.int .i64 A) ∧ W9.cell? ⟨w.heap.size, 1, none⟩ = some (.int .i64 B) ∧ W9.cell? ⟨w.heap.size, 2, none⟩ = some (.slice a zs.length cap) ∧ W9.cell? ⟨w.heap.size + 1, 0, none⟩ = some (.int .i64 X) ∧ W9.cell? ⟨w.heap.size + 1, 1, none⟩ = some (.int .i64 Y) ∧ W9.cell? ⟨w.heap.size + 1, 2, none⟩ = some (.int .i64 U) ∧ W9.cell? ⟨w.heap.size + 1, 3, none⟩ = some (.int .i64 V) ∧ W9.cell? ⟨cp, 0, none⟩ = some (.int .i64 x) ∧ W9.cell? ⟨cp, 1, none⟩ = some (.int .i64 y) ∧ W9.cell? ⟨mp, 0, none⟩ = some (.int .i64 M.1) ∧ W9.cell? ⟨mp, 1, none⟩ = some (.int .i64 M.2) ∧ W9.cell? ⟨w.heap.size + 1 + 1 + 1, mi, none⟩ = some (.int .u64 v) ∧ W9.cell? ⟨w.heap.size + 1 + 1 + 1, ci, none⟩ = some (.int .u64 u)) W4 := ⟨cell_later hbW4 hS3.1, cell_later hbW4 hS3.2.1, cell_later hbW4 hS3.2.2.1, cell_later hbW4 hS3.2.2.2.1, cell_later hbW4 hS3.2.2.2.2.1, cell_later hbW4 hS3.2.2.2.2.2.1, cell_later hbW4 hS3.2.2.2.2.2.2.1, cell_later hbW4 hS3.2.2.2.2.2.2.2.1, cell_later hbW4 hS3.2.2.2.2.2.2.2.2.1, cell_later hbW4 hS3.2.2.2.2.2.2.2.2.2.1, cell_later hbW4 hS3.2.2.2.2.2.2.2.2.2.2.1, cell_later hbW4 hS3.2.2.2.2.2.2.2.2.2.2.2.1, cell_later hbW4 hS3.2.2.2.2.2.2.2.2.2.2.2.2⟩
                                refine hK _ _ hS4 ?_
                                clear hK K
                                try simp only [Act.put, List.setIfInBounds_toArray, List.set_cons_zero, List.set_cons_succ]
                                refine' ordS_take (i := 34) (oi := { dst := some 121, op := Op.binOp BinOp.add 36 (Operand.tmp 117) (Operand.tmp 120) 36, type := 36, pos := _, after := #[{ on := 30, ground := Ground.data }, { on := 33, ground := Ground.data }, { on := 18, ground := Ground.guard }], guard := some (18, true) }) (v := _) rfl (by kernel_rfl) (by kernel_rfl) (by kernel_rfl) (by kernel_rfl) (fun _ _ _ h => h) (by assumption) (Or.inl ⟨by rfl, ?hy336⟩) (fun _ => rfl) ?rest336
                                case hy336 => (intro w hSw; (try dsimp only at hSw); go_simp; try with_reducible rfl)
                                try simp only [Act.put, List.setIfInBounds_toArray, List.set_cons_zero, List.set_cons_succ]
                                refine' ordS_take (i := 45) (oi := { dst := some 132, op := Op.binOp BinOp.lss 36 (Operand.tmp 121) (Operand.tmp 131) 36, type := 4, pos := _, after := #[{ on := 34, ground := Ground.data }, { on := 44, ground := Ground.data }, { on := 18, ground := Ground.guard }], guard := some (18, true) }) (v := _) rfl (by kernel_rfl) (by kernel_rfl) (by kernel_rfl) (by kernel_rfl) (fun _ _ _ h => h) (by assumption) (Or.inl ⟨by rfl, ?hy337⟩) (fun _ => rfl) ?rest337
                                case hy337 => (intro w hSw; (try dsimp only at hSw); go_simp; try with_reducible rfl)
                                try simp only [Act.put, List.setIfInBounds_toArray, List.set_cons_zero, List.set_cons_succ]
                                refine' ordS_take (i := 46) (oi := { dst := some 133, op := Op.pick (Operand.tmp 105) (Operand.tmp 132) (Operand.const (Value.bool false)), type := 4, pos := _, after := #[{ on := 18, ground := Ground.data }, { on := 45, ground := Ground.data }], guard := none }) (v := _) rfl (by kernel_rfl) (by kernel_rfl) (by kernel_rfl) (by kernel_rfl) (fun _ _ _ h => h) (by assumption) (Or.inl ⟨by rfl, ?hy338⟩) (fun _ => rfl) ?rest338
                                case hy338 => (intro w hSw; (try dsimp only at hSw); go_simp; try with_reducible rfl)
                                try simp only [Act.put, List.setIfInBounds_toArray, List.set_cons_zero, List.set_cons_succ]
                                refine ordS_done (by kernel_rfl) ?_
                                have hI5 := HI1.out.below hB
                                have jf0 := hS4.1; have jf1 := hS4.2.1; have jf2 := hS4.2.2.1
                                have jp0 := cell_later hB kp0; have jp1 := cell_later hB kp1; have jm0 := cell_later hB km0; have jm1 := cell_later hB km1; have jv := cell_later hB kv
                                have HI5 := Lib.hid hI5
                                obtain ⟨W5, hW5⟩ : ∃ W5, W5 = W4 := ⟨_, rfl⟩
                                rw [← hW5] at jf0 jf1 jf2 jp0 jp1 jm0 jm1 jv HI5 ⊢
                                have HRW5 := Lib.hid (fun W (h : Below W5.heap.size W5 W) => HRWW.out W (bl_tr HI5.out.bel h))
                                have zj0 := blk_lt jp0; have zj1 := blk_lt jf0; have zj3 := blk_lt jm0; have zj4 := blk_lt jv
                                clear hW5 hI5 hS hS3 hS4 hB kp0 kp1 kf0 kf1 kf2 kx0 kx1 kx2 kx3 km0 km1 ku kv zk0 zk1 zk2 zk3 zk4 hbW3 hbW4
                                go_upto_region 26 with fail
                                have hB5 := bl_dr (bl0 W5)
                                have hS5 : (fun W9 : World => W9.cell? ⟨w.heap.size, 0, none⟩ = some (.int .i64 A) ∧ W9.cell? ⟨w.heap.size, 1, none⟩ = some (.int .i64 B) ∧ W9.cell? ⟨w.heap.size, 2, none⟩ = some (.slice a zs.length cap) ∧ W9.cell? ⟨cp, 0, none⟩ = some (.int .i64 x) ∧ W9.cell? ⟨cp, 1, none⟩ = some (.int .i64 y) ∧ W9.cell? ⟨mp, 0, none⟩ = some (.int .i64 M.1) ∧ W9.cell? ⟨mp, 1, none⟩ = some (.int .i64 M.2) ∧ W9.cell? ⟨w.heap.size + 1 + 1 + 1, mi, none⟩ = some (.int .u64 v)) W5.drew := ⟨cell_later hB5 jf0, cell_later hB5 jf1, cell_later hB5 jf2, cell_later hB5 jp0, cell_later hB5 jp1, cell_later hB5 jm0, cell_later hB5 jm1, cell_later hB5 jv⟩
                                refine (wpIn_wide (n := 11)).1 ?_
                                refine ordZ_begin (z := 25) (S := (fun W9 : World => W9.cell? ⟨w.heap.size, 0, none⟩ = some (.int .i64 A) ∧ W9.cell? ⟨w.heap.size, 1, none⟩ = some (.int .i64 B) ∧ W9.cell? ⟨w.heap.size, 2, none⟩ = some (.slice a zs.length cap) ∧ W9.cell? ⟨cp, 0, none⟩ = some (.int .i64 x) ∧ W9.cell? ⟨cp, 1, none⟩ = some (.int .i64 y) ∧ W9.cell? ⟨mp, 0, none⟩ = some (.int .i64 M.1) ∧ W9.cell? ⟨mp, 1, none⟩ = some (.int .i64 M.2) ∧ W9.cell? ⟨w.heap.size + 1 + 1 + 1, mi, none⟩ = some (.int .u64 v))) (by kernel_rfl) hS5 (fun hH => ?_)
                                first
                                  | (refine' ordZ_take (i := 0) (oi := { dst := some 134, op := Op.move (Operand.tmp 7), type := 42, pos := _, after := #[], guard := none }) (v := _) rfl (by kernel_rfl) (by kernel_rfl) (by kernel_rfl) (by kernel_rfl) (fun _ _ _ h => h) (by assumption) (by kernel_rfl) (by decide) (by rfl) (Or.inl ⟨by rfl, ?hy339⟩) (fun _ => rfl) ?rest339
                                     case hy339 => (intro w hSw; (try dsimp only at hSw); go_simp; try with_reducible rfl))
                                  | (refine ordZ_take (i := 0) (oi := { dst := some 134, op := Op.move (Operand.tmp 7), type := 42, pos := _, after := #[], guard := none }) (v := undef) rfl (by kernel_rfl) (by kernel_rfl) (by kernel_rfl) (by kernel_rfl) (fun _ _ _ h => h) (by assumption) (by kernel_rfl) (by decide) (by rfl) (Or.inr ⟨by rfl, rfl⟩) (fun _ => rfl) ?_)
                                try simp only [Act.put, List.setIfInBounds_toArray, List.set_cons_zero, List.set_cons_succ]
                                first
                                  | (refine' ordZ_take (i := 1) (oi := { dst := some 135, op := Op.move (Operand.tmp 11), type := 3, pos := _, after := #[], guard := none }) (v := _) rfl (by kernel_rfl) (by kernel_rfl) (by kernel_rfl) (by kernel_rfl) (fun _ _ _ h => h) (by assumption) (by kernel_rfl) (by decide) (by rfl) (Or.inl ⟨by rfl, ?hy340⟩) (fun _ => rfl) ?rest340
                                     case hy340 => (intro w hSw; (try dsimp only at hSw); go_simp; try with_reducible rfl))
                                  | (refine ordZ_take (i := 1) (oi := { dst := some 135, op := Op.move (Operand.tmp 11), type := 3, pos := _, after := #[], guard := none }) (v := undef) rfl (by kernel_rfl) (by kernel_rfl) (by kernel_rfl) (by kernel_rfl) (fun _ _ _ h => h) (by assumption) (by kernel_rfl) (by decide) (by rfl) (Or.inr ⟨by rfl, rfl⟩) (fun _ => rfl) ?_)
                                try simp only [Act.put, List.setIfInBounds_toArray, List.set_cons_zero, List.set_cons_succ]
                                first
                                  | (refine' ordZ_take (i := 2) (oi := { dst := some 136, op := Op.fieldAddr 26 (Operand.tmp 3) 0, type := 0, pos := _, after := #[], guard := none }) (v := _) rfl (by kernel_rfl) (by kernel_rfl) (by kernel_rfl) (by kernel_rfl) (fun _ _ _ h => h) (by assumption) (by kernel_rfl) (by decide) (by rfl) (Or.inl ⟨by rfl, ?hy341⟩) (fun _ => rfl) ?rest341
                                     case hy341 => (intro w hSw; (try dsimp only at hSw); go_simp; try with_reducible rfl))
                                  | (refine ordZ_take (i := 2) (oi := { dst := some 136, op := Op.fieldAddr 26 (Operand.tmp 3) 0, type := 0, pos := _, after := #[], guard := none }) (v := undef) rfl (by kernel_rfl) (by kernel_rfl) (by kernel_rfl) (by kernel_rfl) (fun _ _ _ h => h) (by assumption) (by kernel_rfl) (by decide) (by rfl) (Or.inr ⟨by rfl, rfl⟩) (fun _ => rfl) ?_)
                                try simp only [Act.put, List.setIfInBounds_toArray, List.set_cons_zero, List.set_cons_succ]
                                first
                                  | (refine' ordZ_take (i := 3) (oi := { dst := some 137, op := Op.fieldAddr 23 (Operand.tmp 136) 0, type := 0, pos := _, after := #[{ on := 2, ground := Ground.data }], guard := none }) (v := _) rfl (by kernel_rfl) (by kernel_rfl) (by kernel_rfl) (by kernel_rfl) (fun _ _ _ h => h) (by assumption) (by kernel_rfl) (by decide) (by rfl) (Or.inl ⟨by rfl, ?hy342⟩) (fun _ => rfl) ?rest342
                                     case hy342 => (intro w hSw; (try dsimp only at hSw); go_simp; try with_reducible rfl))
                                  | (refine ordZ_take (i := 3) (oi := { dst := some 137, op := Op.fieldAddr 23 (Operand.tmp 136) 0, type := 0, pos := _, after := #[{ on := 2, ground := Ground.data }], guard := none }) (v := undef) rfl (by kernel_rfl) (by kernel_rfl) (by kernel_rfl) (by kernel_rfl) (fun _ _ _ h => h) (by assumption) (by kernel_rfl) (by decide) (by rfl) (Or.inr ⟨by rfl, rfl⟩) (fun _ => rfl) ?_)
                                try simp only [Act.put, List.setIfInBounds_toArray, List.set_cons_zero, List.set_cons_succ]
                                first
                                  | (refine' ordZ_take (i := 4) (oi := { dst := some 138, op := Op.load 3 (Operand.tmp 137), type := 3, pos := _, after := #[{ on := 3, ground := Ground.data }], guard := none }) (v := _) rfl (by kernel_rfl) (by kernel_rfl) (by kernel_rfl) (by kernel_rfl) (fun _ _ _ h => h) (by assumption) (by kernel_rfl) (by decide) (by rfl) (Or.inl ⟨by rfl, ?hy343⟩) (fun _ => rfl) ?rest343
                                     case hy343 => (intro w hSw; (try dsimp only at hSw); go_simp; try with_reducible rfl))
                                  | (refine ordZ_take (i := 4) (oi := { dst := some 138, op := Op.load 3 (Operand.tmp 137), type := 3, pos := _, after := #[{ on := 3, ground := Ground.data }], guard := none }) (v := undef) rfl (by kernel_rfl) (by kernel_rfl) (by kernel_rfl) (by kernel_rfl) (fun _ _ _ h => h) (by assumption) (by kernel_rfl) (by decide) (by rfl) (Or.inr ⟨by rfl, rfl⟩) (fun _ => rfl) ?_)
                                try simp only [Act.put, List.setIfInBounds_toArray, List.set_cons_zero, List.set_cons_succ]
                                first
                                  | (refine' ordZ_take (i := 5) (oi := { dst := some 139, op := Op.binOp BinOp.mul 3 (Operand.tmp 135) (Operand.tmp 138) 3, type := 3, pos := _, after := #[{ on := 1, ground := Ground.data }, { on := 4, ground := Ground.data }], guard := none }) (v := _) rfl (by kernel_rfl) (by kernel_rfl) (by kernel_rfl) (by kernel_rfl) (fun _ _ _ h => h) (by assumption) (by kernel_rfl) (by decide) (by rfl) (Or.inl ⟨by rfl, ?hy344⟩) (fun _ => rfl) ?rest344
                                     case hy344 => (intro w hSw; (try dsimp only at hSw); go_simp; try with_reducible rfl))
                                  | (refine ordZ_take (i := 5) (oi := { dst := some 139, op := Op.binOp BinOp.mul 3 (Operand.tmp 135) (Operand.tmp 138) 3, type := 3, pos := _, after := #[{ on := 1, ground := Ground.data }, { on := 4, ground := Ground.data }], guard := none }) (v := undef) rfl (by kernel_rfl) (by kernel_rfl) (by kernel_rfl) (by kernel_rfl) (fun _ _ _ h => h) (by assumption) (by kernel_rfl) (by decide) (by rfl) (Or.inr ⟨by rfl, rfl⟩) (fun _ => rfl) ?_)
                                try simp only [Act.put, List.setIfInBounds_toArray, List.set_cons_zero, List.set_cons_succ]
                                first
                                  | (refine' ordZ_take (i := 6) (oi := { dst := some 140, op := Op.move (Operand.tmp 12), type := 3, pos := _, after := #[], guard := none }) (v := _) rfl (by kernel_rfl) (by kernel_rfl) (by kernel_rfl) (by kernel_rfl) (fun _ _ _ h => h) (by assumption) (by kernel_rfl) (by decide) (by rfl) (Or.inl ⟨by rfl, ?hy345⟩) (fun _ => rfl) ?rest345
                                     case hy345 => (intro w hSw; (try dsimp only at hSw); go_simp; try with_reducible rfl))
                                  | (refine ordZ_take (i := 6) (oi := { dst := some 140, op := Op.move (Operand.tmp 12), type := 3, pos := _, after := #[], guard := none }) (v := undef) rfl (by kernel_rfl) (by kernel_rfl) (by kernel_rfl) (by kernel_rfl) (fun _ _ _ h => h) (by assumption) (by kernel_rfl) (by decide) (by rfl) (Or.inr ⟨by rfl, rfl⟩) (fun _ => rfl) ?_)
                                try simp only [Act.put, List.setIfInBounds_toArray, List.set_cons_zero, List.set_cons_succ]
                                first
                                  | (refine' ordZ_take (i := 7) (oi := { dst := some 141, op := Op.binOp BinOp.add 3 (Operand.tmp 139) (Operand.tmp 140) 3, type := 3, pos := _, after := #[{ on := 5, ground := Ground.data }, { on := 6, ground := Ground.data }], guard := none }) (v := _) rfl (by kernel_rfl) (by kernel_rfl) (by kernel_rfl) (by kernel_rfl) (fun _ _ _ h => h) (by assumption) (by kernel_rfl) (by decide) (by rfl) (Or.inl ⟨by rfl, ?hy346⟩) (fun _ => rfl) ?rest346
                                     case hy346 => (intro w hSw; (try dsimp only at hSw); go_simp; try with_reducible rfl))
                                  | (refine ordZ_take (i := 7) (oi := { dst := some 141, op := Op.binOp BinOp.add 3 (Operand.tmp 139) (Operand.tmp 140) 3, type := 3, pos := _, after := #[{ on := 5, ground := Ground.data }, { on := 6, ground := Ground.data }], guard := none }) (v := undef) rfl (by kernel_rfl) (by kernel_rfl) (by kernel_rfl) (by kernel_rfl) (fun _ _ _ h => h) (by assumption) (by kernel_rfl) (by decide) (by rfl) (Or.inr ⟨by rfl, rfl⟩) (fun _ => rfl) ?_)
                                try simp only [Act.put, List.setIfInBounds_toArray, List.set_cons_zero, List.set_cons_succ]
                                first
                                  | (refine' ordZ_take (i := 8) (oi := { dst := some 142, op := Op.move (Operand.tmp 7), type := 42, pos := _, after := #[], guard := none }) (v := _) rfl (by kernel_rfl) (by kernel_rfl) (by kernel_rfl) (by kernel_rfl) (fun _ _ _ h => h) (by assumption) (by kernel_rfl) (by decide) (by rfl) (Or.inl ⟨by rfl, ?hy347⟩) (fun _ => rfl) ?rest347
                                     case hy347 => (intro w hSw; (try dsimp only at hSw); go_simp; try with_reducible rfl))
                                  | (refine ordZ_take (i := 8) (oi := { dst := some 142, op := Op.move (Operand.tmp 7), type := 42, pos := _, after := #[], guard := none }) (v := undef) rfl (by kernel_rfl) (by kernel_rfl) (by kernel_rfl) (by kernel_rfl) (fun _ _ _ h => h) (by assumption) (by kernel_rfl) (by decide) (by rfl) (Or.inr ⟨by rfl, rfl⟩) (fun _ => rfl) ?_)
                                try simp only [Act.put, List.setIfInBounds_toArray, List.set_cons_zero, List.set_cons_succ]
                                first
                                  | (refine' ordZ_take (i := 9) (oi := { dst := some 143, op := Op.fieldAddr 30 (Operand.tmp 15) 1, type := 0, pos := _, after := #[], guard := none }) (v := _) rfl (by kernel_rfl) (by kernel_rfl) (by kernel_rfl) (by kernel_rfl) (fun _ _ _ h => h) (by assumption) (by kernel_rfl) (by decide) (by rfl) (Or.inl ⟨by rfl, ?hy348⟩) (fun _ => rfl) ?rest348
                                     case hy348 => (intro w hSw; (try dsimp only at hSw); go_simp; try with_reducible rfl))
                                  | (refine ordZ_take (i := 9) (oi := { dst := some 143, op := Op.fieldAddr 30 (Operand.tmp 15) 1, type := 0, pos := _, after := #[], guard := none }) (v := undef) rfl (by kernel_rfl) (by kernel_rfl) (by kernel_rfl) (by kernel_rfl) (fun _ _ _ h => h) (by assumption) (by kernel_rfl) (by decide) (by rfl) (Or.inr ⟨by rfl, rfl⟩) (fun _ => rfl) ?_)
                                try simp only [Act.put, List.setIfInBounds_toArray, List.set_cons_zero, List.set_cons_succ]
                                first
                                  | (refine' ordZ_take (i := 10) (oi := { dst := some 144, op := Op.load 3 (Operand.tmp 143), type := 3, pos := _, after := #[{ on := 9, ground := Ground.data }], guard := none }) (v := _) rfl (by kernel_rfl) (by kernel_rfl) (by kernel_rfl) (by kernel_rfl) (fun _ _ _ h => h) (by assumption) (by kernel_rfl) (by decide) (by rfl) (Or.inl ⟨by rfl, ?hy349⟩) (fun _ => rfl) ?rest349
                                     case hy349 => (intro w hSw; (try dsimp only at hSw); go_simp; try with_reducible rfl))
                                  | (refine ordZ_take (i := 10) (oi := { dst := some 144, op := Op.load 3 (Operand.tmp 143), type := 3, pos := _, after := #[{ on := 9, ground := Ground.data }], guard := none }) (v := undef) rfl (by kernel_rfl) (by kernel_rfl) (by kernel_rfl) (by kernel_rfl) (fun _ _ _ h => h) (by assumption) (by kernel_rfl) (by decide) (by rfl) (Or.inr ⟨by rfl, rfl⟩) (fun _ => rfl) ?_)
                                try simp only [Act.put, List.setIfInBounds_toArray, List.set_cons_zero, List.set_cons_succ]
                                first
                                  | (refine' ordZ_take (i := 11) (oi := { dst := some 145, op := Op.fieldAddr 26 (Operand.tmp 3) 0, type := 0, pos := _, after := #[], guard := none }) (v := _) rfl (by kernel_rfl) (by kernel_rfl) (by kernel_rfl) (by kernel_rfl) (fun _ _ _ h => h) (by assumption) (by kernel_rfl) (by decide) (by rfl) (Or.inl ⟨by rfl, ?hy350⟩) (fun _ => rfl) ?rest350
                                     case hy350 => (intro w hSw; (try dsimp only at hSw); go_simp; try with_reducible rfl))
                                  | (refine ordZ_take (i := 11) (oi := { dst := some 145, op := Op.fieldAddr 26 (Operand.tmp 3) 0, type := 0, pos := _, after := #[], guard := none }) (v := undef) rfl (by kernel_rfl) (by kernel_rfl) (by kernel_rfl) (by kernel_rfl) (fun _ _ _ h => h) (by assumption) (by kernel_rfl) (by decide) (by rfl) (Or.inr ⟨by rfl, rfl⟩) (fun _ => rfl) ?_)
                                try simp only [Act.put, List.setIfInBounds_toArray, List.set_cons_zero, List.set_cons_succ]
                                first
                                  | (refine' ordZ_take (i := 12) (oi := { dst := some 146, op := Op.fieldAddr 23 (Operand.tmp 145) 0, type := 0, pos := _, after := #[{ on := 11, ground := Ground.data }], guard := none }) (v := _) rfl (by kernel_rfl) (by kernel_rfl) (by kernel_rfl) (by kernel_rfl) (fun _ _ _ h => h) (by assumption) (by kernel_rfl) (by decide) (by rfl) (Or.inl ⟨by rfl, ?hy351⟩) (fun _ => rfl) ?rest351
                                     case hy351 => (intro w hSw; (try dsimp only at hSw); go_simp; try with_reducible rfl))
                                  | (refine ordZ_take (i := 12) (oi := { dst := some 146, op := Op.fieldAddr 23 (Operand.tmp 145) 0, type := 0, pos := _, after := #[{ on := 11, ground := Ground.data }], guard := none }) (v := undef) rfl (by kernel_rfl) (by kernel_rfl) (by kernel_rfl) (by kernel_rfl) (fun _ _ _ h => h) (by assumption) (by kernel_rfl) (by decide) (by rfl) (Or.inr ⟨by rfl, rfl⟩) (fun _ => rfl) ?_)
                                try simp only [Act.put, List.setIfInBounds_toArray, List.set_cons_zero, List.set_cons_succ]
                                first
                                  | (refine' ordZ_take (i := 13) (oi := { dst := some 147, op := Op.load 3 (Operand.tmp 146), type := 3, pos := _, after := #[{ on := 12, ground := Ground.data }], guard := none }) (v := _) rfl (by kernel_rfl) (by kernel_rfl) (by kernel_rfl) (by kernel_rfl) (fun _ _ _ h => h) (by assumption) (by kernel_rfl) (by decide) (by rfl) (Or.inl ⟨by rfl, ?hy352⟩) (fun _ => rfl) ?rest352
                                     case hy352 => (intro w hSw; (try dsimp only at hSw); go_simp; try with_reducible rfl))
                                  | (refine ordZ_take (i := 13) (oi := { dst := some 147, op := Op.load 3 (Operand.tmp 146), type := 3, pos := _, after := #[{ on := 12, ground := Ground.data }], guard := none }) (v := undef) rfl (by kernel_rfl) (by kernel_rfl) (by kernel_rfl) (by kernel_rfl) (fun _ _ _ h => h) (by assumption) (by kernel_rfl) (by decide) (by rfl) (Or.inr ⟨by rfl, rfl⟩) (fun _ => rfl) ?_)
                                try simp only [Act.put, List.setIfInBounds_toArray, List.set_cons_zero, List.set_cons_succ]
                                first
                                  | (refine' ordZ_take (i := 14) (oi := { dst := some 148, op := Op.binOp BinOp.mul 3 (Operand.tmp 144) (Operand.tmp 147) 3, type := 3, pos := _, after := #[{ on := 10, ground := Ground.data }, { on := 13, ground := Ground.data }], guard := none }) (v := _) rfl (by kernel_rfl) (by kernel_rfl) (by kernel_rfl) (by kernel_rfl) (fun _ _ _ h => h) (by assumption) (by kernel_rfl) (by decide) (by rfl) (Or.inl ⟨by rfl, ?hy353⟩) (fun _ => rfl) ?rest353
                                     case hy353 => (intro w hSw; (try dsimp only at hSw); go_simp; try with_reducible rfl))
                                  | (refine ordZ_take (i := 14) (oi := { dst := some 148, op := Op.binOp BinOp.mul 3 (Operand.tmp 144) (Operand.tmp 147) 3, type := 3, pos := _, after := #[{ on := 10, ground := Ground.data }, { on := 13, ground := Ground.data }], guard := none }) (v := undef) rfl (by kernel_rfl) (by kernel_rfl) (by kernel_rfl) (by kernel_rfl) (fun _ _ _ h => h) (by assumption) (by kernel_rfl) (by decide) (by rfl) (Or.inr ⟨by rfl, rfl⟩) (fun _ => rfl) ?_)
                                try simp only [Act.put, List.setIfInBounds_toArray, List.set_cons_zero, List.set_cons_succ]
                                first
                                  | (refine' ordZ_take (i := 15) (oi := { dst := some 149, op := Op.fieldAddr 30 (Operand.tmp 15) 0, type := 0, pos := _, after := #[], guard := none }) (v := _) rfl (by kernel_rfl) (by kernel_rfl) (by kernel_rfl) (by kernel_rfl) (fun _ _ _ h => h) (by assumption) (by kernel_rfl) (by decide) (by rfl) (Or.inl ⟨by rfl, ?hy354⟩) (fun _ => rfl) ?rest354
                                     case hy354 => (intro w hSw; (try dsimp only at hSw); go_simp; try with_reducible rfl))
                                  | (refine ordZ_take (i := 15) (oi := { dst := some 149, op := Op.fieldAddr 30 (Operand.tmp 15) 0, type := 0, pos := _, after := #[], guard := none }) (v := undef) rfl (by kernel_rfl) (by kernel_rfl) (by kernel_rfl) (by kernel_rfl) (fun _ _ _ h => h) (by assumption) (by kernel_rfl) (by decide) (by rfl) (Or.inr ⟨by rfl, rfl⟩) (fun _ => rfl) ?_)
                                try simp only [Act.put, List.setIfInBounds_toArray, List.set_cons_zero, List.set_cons_succ]
                                first
                                  | (refine' ordZ_take (i := 16) (oi := { dst := some 150, op := Op.load 3 (Operand.tmp 149), type := 3, pos := _, after := #[{ on := 15, ground := Ground.data }], guard := none }) (v := _) rfl (by kernel_rfl) (by kernel_rfl) (by kernel_rfl) (by kernel_rfl) (fun _ _ _ h => h) (by assumption) (by kernel_rfl) (by decide) (by rfl) (Or.inl ⟨by rfl, ?hy355⟩) (fun _ => rfl) ?rest355
                                     case hy355 => (intro w hSw; (try dsimp only at hSw); go_simp; try with_reducible rfl))
                                  | (refine ordZ_take (i := 16) (oi := { dst := some 150, op := Op.load 3 (Operand.tmp 149), type := 3, pos := _, after := #[{ on := 15, ground := Ground.data }], guard := none }) (v := undef) rfl (by kernel_rfl) (by kernel_rfl) (by kernel_rfl) (by kernel_rfl) (fun _ _ _ h => h) (by assumption) (by kernel_rfl) (by decide) (by rfl) (Or.inr ⟨by rfl, rfl⟩) (fun _ => rfl) ?_)
                                try simp only [Act.put, List.setIfInBounds_toArray, List.set_cons_zero, List.set_cons_succ]
                                first
                                  | (refine' ordZ_take (i := 17) (oi := { dst := some 151, op := Op.binOp BinOp.add 3 (Operand.tmp 148) (Operand.tmp 150) 3, type := 3, pos := _, after := #[{ on := 14, ground := Ground.data }, { on := 16, ground := Ground.data }], guard := none }) (v := _) rfl (by kernel_rfl) (by kernel_rfl) (by kernel_rfl) (by kernel_rfl) (fun _ _ _ h => h) (by assumption) (by kernel_rfl) (by decide) (by rfl) (Or.inl ⟨by rfl, ?hy356⟩) (fun _ => rfl) ?rest356
                                     case hy356 => (intro w hSw; (try dsimp only at hSw); go_simp; try with_reducible rfl))
                                  | (refine ordZ_take (i := 17) (oi := { dst := some 151, op := Op.binOp BinOp.add 3 (Operand.tmp 148) (Operand.tmp 150) 3, type := 3, pos := _, after := #[{ on := 14, ground := Ground.data }, { on := 16, ground := Ground.data }], guard := none }) (v := undef) rfl (by kernel_rfl) (by kernel_rfl) (by kernel_rfl) (by kernel_rfl) (fun _ _ _ h => h) (by assumption) (by kernel_rfl) (by decide) (by rfl) (Or.inr ⟨by rfl, rfl⟩) (fun _ => rfl) ?_)
                                try simp only [Act.put, List.setIfInBounds_toArray, List.set_cons_zero, List.set_cons_succ]
                                first
                                  | (refine' ordZ_take (i := 18) (oi := { dst := some 152, op := Op.indexAddr 42 (Operand.tmp 142) (Operand.tmp 151), type := 0, pos := _, after := #[{ on := 8, ground := Ground.data }, { on := 17, ground := Ground.data }], guard := none }) (v := _) rfl (by kernel_rfl) (by kernel_rfl) (by kernel_rfl) (by kernel_rfl) (fun _ _ _ h => h) (by assumption) (by kernel_rfl) (by decide) (by rfl) (Or.inl ⟨by rfl, ?hy357⟩) (fun _ => rfl) ?rest357
                                     case hy357 => (intro w hSw; (try dsimp only at hSw); go_simp; try with_reducible rfl))
                                  | (refine ordZ_take (i := 18) (oi := { dst := some 152, op := Op.indexAddr 42 (Operand.tmp 142) (Operand.tmp 151), type := 0, pos := _, after := #[{ on := 8, ground := Ground.data }, { on := 17, ground := Ground.data }], guard := none }) (v := undef) rfl (by kernel_rfl) (by kernel_rfl) (by kernel_rfl) (by kernel_rfl) (fun _ _ _ h => h) (by assumption) (by kernel_rfl) (by decide) (by rfl) (Or.inr ⟨by rfl, rfl⟩) (fun _ => rfl) ?_)
                                try simp only [Act.put, List.setIfInBounds_toArray, List.set_cons_zero, List.set_cons_succ]
                                first
                                  | (refine' ordZ_take (i := 19) (oi := { dst := some 153, op := Op.load 36 (Operand.tmp 152), type := 36, pos := _, after := #[{ on := 18, ground := Ground.data }], guard := none }) (v := _) rfl (by kernel_rfl) (by kernel_rfl) (by kernel_rfl) (by kernel_rfl) (fun _ _ _ h => h) (by assumption) (by kernel_rfl) (by decide) (by rfl) (Or.inl ⟨by rfl, ?hy358⟩) (fun _ => rfl) ?rest358
                                     case hy358 => (intro w hSw; (try dsimp only at hSw); go_simp; try with_reducible rfl))
                                  | (refine ordZ_take (i := 19) (oi := { dst := some 153, op := Op.load 36 (Operand.tmp 152), type := 36, pos := _, after := #[{ on := 18, ground := Ground.data }], guard := none }) (v := undef) rfl (by kernel_rfl) (by kernel_rfl) (by kernel_rfl) (by kernel_rfl) (fun _ _ _ h => h) (by assumption) (by kernel_rfl) (by decide) (by rfl) (Or.inr ⟨by rfl, rfl⟩) (fun _ => rfl) ?_)
                                try simp only [Act.put, List.setIfInBounds_toArray, List.set_cons_zero, List.set_cons_succ]
                                first
                                  | (refine' ordZ_take (i := 20) (oi := { dst := some 154, op := Op.load 26 (Operand.tmp 3), type := 26, pos := _, after := #[], guard := none }) (v := _) rfl (by kernel_rfl) (by kernel_rfl) (by kernel_rfl) (by kernel_rfl) (fun _ _ _ h => h) (by assumption) (by kernel_rfl) (by decide) (by rfl) (Or.inl ⟨by rfl, ?hy359⟩) (fun _ => rfl) ?rest359
                                     case hy359 => (intro w hSw; (try dsimp only at hSw); go_simp; try with_reducible rfl))
                                  | (refine ordZ_take (i := 20) (oi := { dst := some 154, op := Op.load 26 (Operand.tmp 3), type := 26, pos := _, after := #[], guard := none }) (v := undef) rfl (by kernel_rfl) (by kernel_rfl) (by kernel_rfl) (by kernel_rfl) (fun _ _ _ h => h) (by assumption) (by kernel_rfl) (by decide) (by rfl) (Or.inr ⟨by rfl, rfl⟩) (fun _ => rfl) ?_)
                                try simp only [Act.put, List.setIfInBounds_toArray, List.set_cons_zero, List.set_cons_succ]
                                first
                                  | (refine' ordZ_take (i := 21) (oi := { dst := some 155, op := Op.load 30 (Operand.tmp 13), type := 30, pos := _, after := #[], guard := none }) (v := _) rfl (by kernel_rfl) (by kernel_rfl) (by kernel_rfl) (by kernel_rfl) (fun _ _ _ h => h) (by assumption) (by kernel_rfl) (by decide) (by rfl) (Or.inl ⟨by rfl, ?hy360⟩) (fun _ => rfl) ?rest360
                                     case hy360 => (intro w hSw; (try dsimp only at hSw); go_simp; try with_reducible rfl))
                                  | (refine ordZ_take (i := 21) (oi := { dst := some 155, op := Op.load 30 (Operand.tmp 13), type := 30, pos := _, after := #[], guard := none }) (v := undef) rfl (by kernel_rfl) (by kernel_rfl) (by kernel_rfl) (by kernel_rfl) (fun _ _ _ h => h) (by assumption) (by kernel_rfl) (by decide) (by rfl) (Or.inr ⟨by rfl, rfl⟩) (fun _ => rfl) ?_)
                                try simp only [Act.put, List.setIfInBounds_toArray, List.set_cons_zero, List.set_cons_succ]
                                obtain ⟨W6, hW6⟩ : ∃ W6, W5.drew = W6 := ⟨_, rfl⟩
                                rw [hW6] at hB5 hS5
                                rw [hW6]
                                clear hW6 hH
                                refine ordZ_one (i := 22) (o := { dst := some 156, op := Op.call { callee := Callee.value (Operand.func 36), args := #[Operand.tmp 154, Operand.tmp 155], argTypes := #[26, 30] }, type := 36, pos := _, after := #[{ on := 20, ground := Ground.data }, { on := 21, ground := Ground.data }], guard := none }) (by kernel_rfl) rfl (by rfl) (fun K hK => ?_)
                                go_simp
                                refine ⟨trivial, ?_⟩
                                with_reducible refine (callsIn_wide.2 (HCC.out _ (HRW5.out _ hB5))).mono ?_
                                rintro e W7 ⟨rfl, hb7⟩
                                replace hB5 := bl_tr hB5 hb7
                                have hS7 : (fun W9 : World => W9.cell? ⟨w.heap.size, 0, none⟩ = some (.int .i64 A) ∧ W9.cell? ⟨w.heap.size, 1, none⟩ = some (.int .i64 B) ∧ W9.cell? ⟨w.heap.size, 2, none⟩ = some (.slice a zs.length cap) ∧ W9.cell? ⟨cp, 0, none⟩ = some (.int .i64 x) ∧ W9.cell? ⟨cp, 1, none⟩ = some (.int .i64 y) ∧ W9.cell? ⟨mp, 0, none⟩ = some (.int .i64 M.1) ∧ W9.cell? ⟨mp, 1, none⟩ = some (.int .i64 M.2) ∧ W9.cell? ⟨w.heap.size + 1 + 1 + 1, mi, none⟩ = some (.int .u64 v)) W7 := ⟨cell_later hb7 hS5.1, cell_later hb7 hS5.2.1, cell_later hb7 hS5.2.2.1, cell_later hb7 hS5.2.2.2.1, cell_later hb7 hS5.2.2.2.2.1, cell_later hb7 hS5.2.2.2.2.2.1, cell_later hb7 hS5.2.2.2.2.2.2.1, cell_later hb7 hS5.2.2.2.2.2.2.2⟩
                                refine hK _ _ (fun _ => hS7) ?_
                                clear hK K
                                try simp only [Act.put, List.setIfInBounds_toArray, List.set_cons_zero, List.set_cons_succ]
                                first
                                  | (refine' ordZ_take (i := 23) (oi := { dst := some 157, op := Op.binOp BinOp.add 36 (Operand.tmp 153) (Operand.tmp 156) 36, type := 36, pos := _, after := #[{ on := 19, ground := Ground.data }, { on := 22, ground := Ground.data }], guard := none }) (v := _) rfl (by kernel_rfl) (by kernel_rfl) (by kernel_rfl) (by kernel_rfl) (fun _ _ _ h => h) (by assumption) (by kernel_rfl) (by decide) (by rfl) (Or.inl ⟨by rfl, ?hy361⟩) (fun _ => rfl) ?rest361
                                     case hy361 => (intro w hSw; (try dsimp only at hSw); go_simp; try with_reducible rfl))
                                  | (refine ordZ_take (i := 23) (oi := { dst := some 157, op := Op.binOp BinOp.add 36 (Operand.tmp 153) (Operand.tmp 156) 36, type := 36, pos := _, after := #[{ on := 19, ground := Ground.data }, { on := 22, ground := Ground.data }], guard := none }) (v := undef) rfl (by kernel_rfl) (by kernel_rfl) (by kernel_rfl) (by kernel_rfl) (fun _ _ _ h => h) (by assumption) (by kernel_rfl) (by decide) (by rfl) (Or.inr ⟨by rfl, rfl⟩) (fun _ => rfl) ?_)
                                try simp only [Act.put, List.setIfInBounds_toArray, List.set_cons_zero, List.set_cons_succ]
                                first
                                  | (refine' ordZ_take (i := 24) (oi := { dst := some 158, op := Op.indexAddr 42 (Operand.tmp 134) (Operand.tmp 141), type := 0, pos := _, after := #[{ on := 0, ground := Ground.data }, { on := 7, ground := Ground.data }, { on := 0, ground := Ground.phase }, { on := 1, ground := Ground.phase }, { on := 2, ground := Ground.phase }, { on := 3, ground := Ground.phase }, { on := 4, ground := Ground.phase }, { on := 5, ground := Ground.phase }, { on := 6, ground := Ground.phase }, { on := 7, ground := Ground.phase }, { on := 8, ground := Ground.phase }, { on := 9, ground := Ground.phase }, { on := 10, ground := Ground.phase }, { on := 11, ground := Ground.phase }, { on := 12, ground := Ground.phase }, { on := 13, ground := Ground.phase }, { on := 14, ground := Ground.phase }, { on := 15, ground := Ground.phase }, { on := 16, ground := Ground.phase }, { on := 17, ground := Ground.phase }, { on := 18, ground := Ground.phase }, { on := 19, ground := Ground.phase }, { on := 20, ground := Ground.phase }, { on := 21, ground := Ground.phase }, { on := 22, ground := Ground.phase }, { on := 23, ground := Ground.phase }], guard := none }) (v := _) rfl (by kernel_rfl) (by kernel_rfl) (by kernel_rfl) (by kernel_rfl) (fun _ _ _ h => h) (by assumption) (by kernel_rfl) (by decide) (by rfl) (Or.inl ⟨by rfl, ?hy362⟩) (fun _ => rfl) ?rest362
                                     case hy362 => (intro w hSw; (try dsimp only at hSw); go_simp; try with_reducible rfl))
                                  | (refine ordZ_take (i := 24) (oi := { dst := some 158, op := Op.indexAddr 42 (Operand.tmp 134) (Operand.tmp 141), type := 0, pos := _, after := #[{ on := 0, ground := Ground.data }, { on := 7, ground := Ground.data }, { on := 0, ground := Ground.phase }, { on := 1, ground := Ground.phase }, { on := 2, ground := Ground.phase }, { on := 3, ground := Ground.phase }, { on := 4, ground := Ground.phase }, { on := 5, ground := Ground.phase }, { on := 6, ground := Ground.phase }, { on := 7, ground := Ground.phase }, { on := 8, ground := Ground.phase }, { on := 9, ground := Ground.phase }, { on := 10, ground := Ground.phase }, { on := 11, ground := Ground.phase }, { on := 12, ground := Ground.phase }, { on := 13, ground := Ground.phase }, { on := 14, ground := Ground.phase }, { on := 15, ground := Ground.phase }, { on := 16, ground := Ground.phase }, { on := 17, ground := Ground.phase }, { on := 18, ground := Ground.phase }, { on := 19, ground := Ground.phase }, { on := 20, ground := Ground.phase }, { on := 21, ground := Ground.phase }, { on := 22, ground := Ground.phase }, { on := 23, ground := Ground.phase }], guard := none }) (v := undef) rfl (by kernel_rfl) (by kernel_rfl) (by kernel_rfl) (by kernel_rfl) (fun _ _ _ h => h) (by assumption) (by kernel_rfl) (by decide) (by rfl) (Or.inr ⟨by rfl, rfl⟩) (fun _ => rfl) ?_)
                                try simp only [Act.put, List.setIfInBounds_toArray, List.set_cons_zero, List.set_cons_succ]
                                refine ordZ_one (i := 25) (o := { dst := none, op := Op.store 36 (Operand.tmp 158) (Operand.tmp 157), type := 0, pos := _, after := #[{ on := 24, ground := Ground.data }, { on := 23, ground := Ground.data }, { on := 22, ground := Ground.chain }, { on := 0, ground := Ground.phase }, { on := 1, ground := Ground.phase }, { on := 2, ground := Ground.phase }, { on := 3, ground := Ground.phase }, { on := 4, ground := Ground.phase }, { on := 5, ground := Ground.phase }, { on := 6, ground := Ground.phase }, { on := 7, ground := Ground.phase }, { on := 8, ground := Ground.phase }, { on := 9, ground := Ground.phase }, { on := 10, ground := Ground.phase }, { on := 11, ground := Ground.phase }, { on := 12, ground := Ground.phase }, { on := 13, ground := Ground.phase }, { on := 14, ground := Ground.phase }, { on := 15, ground := Ground.phase }, { on := 16, ground := Ground.phase }, { on := 17, ground := Ground.phase }, { on := 18, ground := Ground.phase }, { on := 19, ground := Ground.phase }, { on := 20, ground := Ground.phase }, { on := 21, ground := Ground.phase }, { on := 22, ground := Ground.phase }, { on := 23, ground := Ground.phase }], guard := none }) (by kernel_rfl) rfl (by rfl) (fun K hK => ?_)
                                have hI7 := HI5.out.below hB5
                                obtain ⟨t0, t1⟩ := hI7.at HCL.out
                                have zt := blk_lt t0
                                go_simp
                                refine hK _ _ (fun h => by cases h) ?_
                                clear hK K
                                try simp only [Act.put, List.setIfInBounds_toArray, List.set_cons_zero, List.set_cons_succ]
                                refine ordZ_done (by kernel_rfl) ?_
                                have hI8 := hI7.set ci (IntKind.u64.wrap (v + kc))
                                have hg8 := hgrown_set W7 (w.heap.size + 1 + 1 + 1) ci (.int .u64 (IntKind.u64.wrap (v + kc)))
                                have q0 := hg8.cell (cell_later hB5 jp0) (by simp; omega)
                                have q1 := hg8.cell (cell_later hB5 jp1) (by simp; omega)
                                rw [← HLT.out] at hI8
                                have HI8 := Lib.hid hI8
                                clear hI8 hg8 hI7 t0 t1 zt hS5 hS7
                                go_wp2
                                go_roundw
                                case rel => exact ⟨d + 1, true, by omega, by go_num, rfl, (fun h => by cases h), HI8.out, q0, q1⟩
                                case measure => simp [intOf]; omega
                              · have HEQ := Lib.hid (HGV.out.2.1 hvi hlt9)
                                have hdl : decide (IntKind.u64.wrap (v + kc) < u) = false := decide_eq_false hlt9
                                have hB := bl_dr (bl0 W1)
                                have hS : (fun W9 : World => W9.cell? ⟨w.heap.size, 0, none⟩ = some (.int .i64 A) ∧ W9.cell? ⟨w.heap.size, 1, none⟩ = some (.int .i64 B) ∧ W9.cell? ⟨w.heap.size, 2, none⟩ = some (.slice a zs.length cap) ∧ W9.cell? ⟨w.heap.size + 1, 0, none⟩ = some (.int .i64 X) ∧ W9.cell? ⟨w.heap.size + 1, 1, none⟩ = some (.int .i64 Y) ∧ W9.cell? ⟨w.heap.size + 1, 2, none⟩ = some (.int .i64 U) ∧ W9.cell? ⟨w.heap.size + 1, 3, none⟩ = some (.int .i64 V) ∧ W9.cell? ⟨cp, 0, none⟩ = some (.int .i64 x) ∧ W9.cell? ⟨cp, 1, none⟩ = some (.int .i64 y) ∧ W9.cell? ⟨mp, 0, none⟩ = some (.int .i64 M.1) ∧ W9.cell? ⟨mp, 1, none⟩ = some (.int .i64 M.2) ∧ W9.cell? ⟨w.heap.size + 1 + 1 + 1, mi, none⟩ = some (.int .u64 v) ∧ W9.cell? ⟨w.heap.size + 1 + 1 + 1, ci, none⟩ = some (.int .u64 u)) W1.drew := ⟨cell_later hB kf0, cell_later hB kf1, cell_later hB kf2, cell_later hB kx0, cell_later hB kx1, cell_later hB kx2, cell_later hB kx3, cell_later hB kp0, cell_later hB kp1, cell_later hB km0, cell_later hB km1, cell_later hB kv, cell_later hB ku⟩
                                refine (wpIn_wide (n := 11)).1 ?_
                                refine ordS_begin (S := (fun W9 : World => W9.cell? ⟨w.heap.size, 0, none⟩ = some (.int .i64 A) ∧ W9.cell? ⟨w.heap.size, 1, none⟩ = some (.int .i64 B) ∧ W9.cell? ⟨w.heap.size, 2, none⟩ = some (.slice a zs.length cap) ∧ W9.cell? ⟨w.heap.size + 1, 0, none⟩ = some (.int .i64 X) ∧ W9.cell? ⟨w.heap.size + 1, 1, none⟩ = some (.int .i64 Y) ∧ W9.cell? ⟨w.heap.size + 1, 2, none⟩ = some (.int .i64 U) ∧ W9.cell? ⟨w.heap.size + 1, 3, none⟩ = some (.int .i64 V) ∧ W9.cell? ⟨cp, 0, none⟩ = some (.int .i64 x) ∧ W9.cell? ⟨cp, 1, none⟩ = some (.int .i64 y) ∧ W9.cell? ⟨mp, 0, none⟩ = some (.int .i64 M.1) ∧ W9.cell? ⟨mp, 1, none⟩ = some (.int .i64 M.2) ∧ W9.cell? ⟨w.heap.size + 1 + 1 + 1, mi, none⟩ = some (.int .u64 v) ∧ W9.cell? ⟨w.heap.size + 1 + 1 + 1, ci, none⟩ = some (.int .u64 u))) (by kernel_rfl) hS (fun hH => ?_)
                                refine' ordS_take (i := 0) (oi := { dst := some 87, op := Op.load 28 (Operand.tmp 4), type := 28, pos := _, after := #[], guard := none }) (v := _) rfl (by kernel_rfl) (by kernel_rfl) (by kernel_rfl) (by kernel_rfl) (fun _ _ _ h => h) (by assumption) (Or.inl ⟨by rfl, ?hy363⟩) (fun _ => rfl) ?rest363
                                case hy363 => (intro w hSw; (try dsimp only at hSw); go_simp; try with_reducible rfl)
                                try simp only [Act.put, List.setIfInBounds_toArray, List.set_cons_zero, List.set_cons_succ]
                                refine' ordS_take (i := 1) (oi := { dst := some 88, op := Op.load 30 (Operand.tmp 15), type := 30, pos := _, after := #[], guard := none }) (v := _) rfl (by kernel_rfl) (by kernel_rfl) (by kernel_rfl) (by kernel_rfl) (fun _ _ _ h => h) (by assumption) (Or.inl ⟨by rfl, ?hy364⟩) (fun _ => rfl) ?rest364
                                case hy364 => (intro w hSw; (try dsimp only at hSw); go_simp; try with_reducible rfl)
                                try simp only [Act.put, List.setIfInBounds_toArray, List.set_cons_zero, List.set_cons_succ]
                                obtain ⟨W2, hW2⟩ : ∃ W2, W1.drew = W2 := ⟨_, rfl⟩
                                rw [hW2] at hB hS
                                rw [hW2]
                                clear hW2 hH
                                refine ordS_one (i := 2) (o := { dst := some 89, op := Op.call { callee := Callee.value (Operand.func 11), args := #[Operand.tmp 87, Operand.tmp 88], argTypes := #[28, 30] }, type := 4, pos := _, after := #[{ on := 0, ground := Ground.data }, { on := 1, ground := Ground.data }], guard := none }) (by kernel_rfl) rfl (by rfl) (fun K hK => ?_)
                                go_simp
                                refine ⟨trivial, ?_⟩
                                with_reducible refine (callsIn_wide.2 (HHB.out _)).mono ?_
                                rintro e W3 ⟨rfl, hbW3⟩
                                replace hB := bl_tr hB hbW3
                                have hS3 : (fun W9 : World => W9.cell? ⟨w.heap.size, 0, none⟩ = some (.int .i64 A) ∧ W9.cell? ⟨w.heap.size, 1, none⟩ = some (.int .i64 B) ∧ W9.cell? ⟨w.heap.size, 2, none⟩ = some (.slice a zs.length cap) ∧ W9.cell? ⟨w.heap.size + 1, 0, none⟩ = some (.int .i64 X) ∧ W9.cell? ⟨w.heap.size + 1, 1, none⟩ = some (.int .i64 Y) ∧ W9.cell? ⟨w.heap.size + 1, 2, none⟩ = some (.int .i64 U) ∧ W9.cell? ⟨w.heap.size + 1, 3, none⟩ = some (.int .i64 V) ∧ W9.cell? ⟨cp, 0, none⟩ = some (.int .i64 x) ∧ W9.cell? ⟨cp, 1, none⟩ = some (.int .i64 y) ∧ W9.cell? ⟨mp, 0, none⟩ = some (.int .i64 M.1) ∧ W9.cell? ⟨mp, 1, none⟩ = some (.int .i64 M.2) ∧ W9.cell? ⟨w.heap.size + 1 + 1 + 1, mi, none⟩ = some (.int .u64 v) ∧ W9.cell? ⟨w.heap.size + 1 + 1 + 1, ci, none⟩ = some (.int .u64 u)) W3 := ⟨cell_later hbW3 hS.1, cell_later hbW3 hS.2.1, cell_later hbW3 hS.2.2.1, cell_later hbW3 hS.2.2.2.1, cell_later hbW3 hS.2.2.2.2.1, cell_later hbW3 hS.2.2.2.2.2.1, cell_later hbW3 hS.2.2.2.2.2.2.1, cell_later hbW3 hS.2.2.2.2.2.2.2.1, cell_later hbW3 hS.2.2.2.2.2.2.2.2.1, cell_later hbW3 hS.2.2.2.2.2.2.2.2.2.1, cell_later hbW3 hS.2.2.2.2.2.2.2.2.2.2.1, cell_later hbW3 hS.2.2.2.2.2.2.2.2.2.2.2.1, cell_later hbW3 hS.2.2.2.2.2.2.2.2.2.2.2.2⟩
                                refine hK _ _ hS3 ?_
                                clear hK K
                                try simp only [Act.put, List.setIfInBounds_toArray, List.set_cons_zero, List.set_cons_succ]
                                refine' ordS_take (i := 3) (oi := { dst := some 90, op := Op.move (Operand.tmp 89), type := 4, pos := _, after := #[{ on := 2, ground := Ground.data }, { on := 2, ground := Ground.chain }], guard := none }) (v := _) rfl (by kernel_rfl) (by kernel_rfl) (by kernel_rfl) (by kernel_rfl) (fun _ _ _ h => h) (by assumption) (Or.inl ⟨by rfl, ?hy365⟩) (fun _ => rfl) ?rest365
                                case hy365 => (intro w hSw; (try dsimp only at hSw); go_simp; try with_reducible rfl)
                                try simp only [Act.put, List.setIfInBounds_toArray, List.set_cons_zero, List.set_cons_succ]
                                refine' ordS_take (i := 4) (oi := { dst := some 91, op := Op.move (Operand.tmp 7), type := 42, pos := _, after := #[{ on := 3, ground := Ground.guard }], guard := some (3, true) }) (v := _) rfl (by kernel_rfl) (by kernel_rfl) (by kernel_rfl) (by kernel_rfl) (fun _ _ _ h => h) (by assumption) (Or.inl ⟨by rfl, ?hy366⟩) (fun _ => rfl) ?rest366
                                case hy366 => (intro w hSw; (try dsimp only at hSw); go_simp; try with_reducible rfl)
                                try simp only [Act.put, List.setIfInBounds_toArray, List.set_cons_zero, List.set_cons_succ]
                                refine' ordS_take (i := 5) (oi := { dst := some 92, op := Op.fieldAddr 30 (Operand.tmp 15) 1, type := 0, pos := _, after := #[{ on := 3, ground := Ground.guard }], guard := some (3, true) }) (v := _) rfl (by kernel_rfl) (by kernel_rfl) (by kernel_rfl) (by kernel_rfl) (fun _ _ _ h => h) (by assumption) (Or.inl ⟨by rfl, ?hy367⟩) (fun _ => rfl) ?rest367
                                case hy367 => (intro w hSw; (try dsimp only at hSw); go_simp; try with_reducible rfl)
                                try simp only [Act.put, List.setIfInBounds_toArray, List.set_cons_zero, List.set_cons_succ]
                                refine' ordS_take (i := 6) (oi := { dst := some 93, op := Op.load 3 (Operand.tmp 92), type := 3, pos := _, after := #[{ on := 5, ground := Ground.data }, { on := 3, ground := Ground.guard }], guard := some (3, true) }) (v := _) rfl (by kernel_rfl) (by kernel_rfl) (by kernel_rfl) (by kernel_rfl) (fun _ _ _ h => h) (by assumption) (Or.inl ⟨by rfl, ?hy368⟩) (fun _ => rfl) ?rest368
                                case hy368 => (intro w hSw; (try dsimp only at hSw); go_simp; try with_reducible rfl)
                                try simp only [Act.put, List.setIfInBounds_toArray, List.set_cons_zero, List.set_cons_succ]
                                refine' ordS_take (i := 7) (oi := { dst := some 94, op := Op.fieldAddr 26 (Operand.tmp 3) 0, type := 0, pos := _, after := #[{ on := 3, ground := Ground.guard }], guard := some (3, true) }) (v := _) rfl (by kernel_rfl) (by kernel_rfl) (by kernel_rfl) (by kernel_rfl) (fun _ _ _ h => h) (by assumption) (Or.inl ⟨by rfl, ?hy369⟩) (fun _ => rfl) ?rest369
                                case hy369 => (intro w hSw; (try dsimp only at hSw); go_simp; try with_reducible rfl)
                                try simp only [Act.put, List.setIfInBounds_toArray, List.set_cons_zero, List.set_cons_succ]
                                refine' ordS_take (i := 8) (oi := { dst := some 95, op := Op.fieldAddr 23 (Operand.tmp 94) 0, type := 0, pos := _, after := #[{ on := 7, ground := Ground.data }, { on := 3, ground := Ground.guard }], guard := some (3, true) }) (v := _) rfl (by kernel_rfl) (by kernel_rfl) (by kernel_rfl) (by kernel_rfl) (fun _ _ _ h => h) (by assumption) (Or.inl ⟨by rfl, ?hy370⟩) (fun _ => rfl) ?rest370
                                case hy370 => (intro w hSw; (try dsimp only at hSw); go_simp; try with_reducible rfl)
                                try simp only [Act.put, List.setIfInBounds_toArray, List.set_cons_zero, List.set_cons_succ]
                                refine' ordS_take (i := 9) (oi := { dst := some 96, op := Op.load 3 (Operand.tmp 95), type := 3, pos := _, after := #[{ on := 8, ground := Ground.data }, { on := 3, ground := Ground.guard }], guard := some (3, true) }) (v := _) rfl (by kernel_rfl) (by kernel_rfl) (by kernel_rfl) (by kernel_rfl) (fun _ _ _ h => h) (by assumption) (Or.inl ⟨by rfl, ?hy371⟩) (fun _ => rfl) ?rest371
                                case hy371 => (intro w hSw; (try dsimp only at hSw); go_simp; try with_reducible rfl)
                                try simp only [Act.put, List.setIfInBounds_toArray, List.set_cons_zero, List.set_cons_succ]
                                refine' ordS_take (i := 10) (oi := { dst := some 97, op := Op.binOp BinOp.mul 3 (Operand.tmp 93) (Operand.tmp 96) 3, type := 3, pos := _, after := #[{ on := 6, ground := Ground.data }, { on := 9, ground := Ground.data }, { on := 3, ground := Ground.guard }], guard := some (3, true) }) (v := _) rfl (by kernel_rfl) (by kernel_rfl) (by kernel_rfl) (by kernel_rfl) (fun _ _ _ h => h) (by assumption) (Or.inl ⟨by rfl, ?hy372⟩) (fun _ => rfl) ?rest372
                                case hy372 => (intro w hSw; (try dsimp only at hSw); go_simp; try with_reducible rfl)
                                try simp only [Act.put, List.setIfInBounds_toArray, List.set_cons_zero, List.set_cons_succ]
                                refine' ordS_take (i := 11) (oi := { dst := some 98, op := Op.fieldAddr 30 (Operand.tmp 15) 0, type := 0, pos := _, after := #[{ on := 3, ground := Ground.guard }], guard := some (3, true) }) (v := _) rfl (by kernel_rfl) (by kernel_rfl) (by kernel_rfl) (by kernel_rfl) (fun _ _ _ h => h) (by assumption) (Or.inl ⟨by rfl, ?hy373⟩) (fun _ => rfl) ?rest373
                                case hy373 => (intro w hSw; (try dsimp only at hSw); go_simp; try with_reducible rfl)
                                try simp only [Act.put, List.setIfInBounds_toArray, List.set_cons_zero, List.set_cons_succ]
                                refine' ordS_take (i := 12) (oi := { dst := some 99, op := Op.load 3 (Operand.tmp 98), type := 3, pos := _, after := #[{ on := 11, ground := Ground.data }, { on := 3, ground := Ground.guard }], guard := some (3, true) }) (v := _) rfl (by kernel_rfl) (by kernel_rfl) (by kernel_rfl) (by kernel_rfl) (fun _ _ _ h => h) (by assumption) (Or.inl ⟨by rfl, ?hy374⟩) (fun _ => rfl) ?rest374
                                case hy374 => (intro w hSw; (try dsimp only at hSw); go_simp; try with_reducible rfl)
                                try simp only [Act.put, List.setIfInBounds_toArray, List.set_cons_zero, List.set_cons_succ]
                                refine' ordS_take (i := 13) (oi := { dst := some 100, op := Op.binOp BinOp.add 3 (Operand.tmp 97) (Operand.tmp 99) 3, type := 3, pos := _, after := #[{ on := 10, ground := Ground.data }, { on := 12, ground := Ground.data }, { on := 3, ground := Ground.guard }], guard := some (3, true) }) (v := _) rfl (by kernel_rfl) (by kernel_rfl) (by kernel_rfl) (by kernel_rfl) (fun _ _ _ h => h) (by assumption) (Or.inl ⟨by rfl, ?hy375⟩) (fun _ => rfl) ?rest375
                                case hy375 => (intro w hSw; (try dsimp only at hSw); go_simp; try with_reducible rfl)
                                try simp only [Act.put, List.setIfInBounds_toArray, List.set_cons_zero, List.set_cons_succ]
                                refine' ordS_take (i := 14) (oi := { dst := some 101, op := Op.indexAddr 42 (Operand.tmp 91) (Operand.tmp 100), type := 0, pos := _, after := #[{ on := 4, ground := Ground.data }, { on := 13, ground := Ground.data }, { on := 3, ground := Ground.guard }], guard := some (3, true) }) (v := _) rfl (by kernel_rfl) (by kernel_rfl) (by kernel_rfl) (by kernel_rfl) (fun _ _ _ h => h) (by assumption) (Or.inl ⟨by rfl, ?hy376⟩) (fun _ => rfl) ?rest376
                                case hy376 => (intro w hSw; (try dsimp only at hSw); go_simp; try with_reducible rfl)
                                try simp only [Act.put, List.setIfInBounds_toArray, List.set_cons_zero, List.set_cons_succ]
                                refine' ordS_take (i := 15) (oi := { dst := some 102, op := Op.load 36 (Operand.tmp 101), type := 36, pos := _, after := #[{ on := 14, ground := Ground.data }, { on := 3, ground := Ground.guard }], guard := some (3, true) }) (v := _) rfl (by kernel_rfl) (by kernel_rfl) (by kernel_rfl) (by kernel_rfl) (fun _ _ _ h => h) (by assumption) (Or.inl ⟨by rfl, ?hy377⟩) (fun _ => rfl) ?rest377
                                case hy377 => (intro w hSw; (try dsimp only at hSw); go_simp; try with_reducible rfl)
                                try simp only [Act.put, List.setIfInBounds_toArray, List.set_cons_zero, List.set_cons_succ]
                                refine' ordS_take (i := 16) (oi := { dst := some 103, op := Op.binOp BinOp.neq 36 (Operand.tmp 102) (Operand.const (Value.int IntKind.u64 18446744073709551615)) 36, type := 4, pos := _, after := #[{ on := 15, ground := Ground.data }, { on := 3, ground := Ground.guard }], guard := some (3, true) }) (v := _) rfl (by kernel_rfl) (by kernel_rfl) (by kernel_rfl) (by kernel_rfl) (fun _ _ _ h => h) (by assumption) (Or.inl ⟨by rfl, ?hy378⟩) (fun _ => rfl) ?rest378
                                case hy378 => (intro w hSw; (try dsimp only at hSw); go_simp; try with_reducible rfl)
                                try simp only [Act.put, List.setIfInBounds_toArray, List.set_cons_zero, List.set_cons_succ]
                                refine' ordS_take (i := 17) (oi := { dst := some 104, op := Op.pick (Operand.tmp 90) (Operand.tmp 103) (Operand.const (Value.bool false)), type := 4, pos := _, after := #[{ on := 3, ground := Ground.data }, { on := 16, ground := Ground.data }], guard := none }) (v := _) rfl (by kernel_rfl) (by kernel_rfl) (by kernel_rfl) (by kernel_rfl) (fun _ _ _ h => h) (by assumption) (Or.inl ⟨by rfl, ?hy379⟩) (fun _ => rfl) ?rest379
                                case hy379 => (intro w hSw; (try dsimp only at hSw); go_simp; try with_reducible rfl)
                                try simp only [Act.put, List.setIfInBounds_toArray, List.set_cons_zero, List.set_cons_succ]
                                refine' ordS_take (i := 18) (oi := { dst := some 105, op := Op.move (Operand.tmp 104), type := 4, pos := _, after := #[{ on := 17, ground := Ground.data }, { on := 3, ground := Ground.chain }], guard := none }) (v := _) rfl (by kernel_rfl) (by kernel_rfl) (by kernel_rfl) (by kernel_rfl) (fun _ _ _ h => h) (by assumption) (Or.inl ⟨by rfl, ?hy380⟩) (fun _ => rfl) ?rest380
                                case hy380 => (intro w hSw; (try dsimp only at hSw); go_simp; try with_reducible rfl)
                                try simp only [Act.put, List.setIfInBounds_toArray, List.set_cons_zero, List.set_cons_succ]
                                refine' ordS_take (i := 19) (oi := { dst := some 106, op := Op.move (Operand.tmp 7), type := 42, pos := _, after := #[{ on := 18, ground := Ground.guard }], guard := some (18, true) }) (v := _) rfl (by kernel_rfl) (by kernel_rfl) (by kernel_rfl) (by kernel_rfl) (fun _ _ _ h => h) (by assumption) (Or.inl ⟨by rfl, ?hy381⟩) (fun _ => rfl) ?rest381
                                case hy381 => (intro w hSw; (try dsimp only at hSw); go_simp; try with_reducible rfl)
                                try simp only [Act.put, List.setIfInBounds_toArray, List.set_cons_zero, List.set_cons_succ]
                                refine' ordS_take (i := 20) (oi := { dst := some 107, op := Op.fieldAddr 30 (Operand.tmp 15) 1, type := 0, pos := _, after := #[{ on := 18, ground := Ground.guard }], guard := some (18, true) }) (v := _) rfl (by kernel_rfl) (by kernel_rfl) (by kernel_rfl) (by kernel_rfl) (fun _ _ _ h => h) (by assumption) (Or.inl ⟨by rfl, ?hy382⟩) (fun _ => rfl) ?rest382
                                case hy382 => (intro w hSw; (try dsimp only at hSw); go_simp; try with_reducible rfl)
                                try simp only [Act.put, List.setIfInBounds_toArray, List.set_cons_zero, List.set_cons_succ]
                                refine' ordS_take (i := 21) (oi := { dst := some 108, op := Op.load 3 (Operand.tmp 107), type := 3, pos := _, after := #[{ on := 20, ground := Ground.data }, { on := 18, ground := Ground.guard }], guard := some (18, true) }) (v := _) rfl (by kernel_rfl) (by kernel_rfl) (by kernel_rfl) (by kernel_rfl) (fun _ _ _ h => h) (by assumption) (Or.inl ⟨by rfl, ?hy383⟩) (fun _ => rfl) ?rest383
                                case hy383 => (intro w hSw; (try dsimp only at hSw); go_simp; try with_reducible rfl)
                                try simp only [Act.put, List.setIfInBounds_toArray, List.set_cons_zero, List.set_cons_succ]
                                refine' ordS_take (i := 22) (oi := { dst := some 109, op := Op.fieldAddr 26 (Operand.tmp 3) 0, type := 0, pos := _, after := #[{ on := 18, ground := Ground.guard }], guard := some (18, true) }) (v := _) rfl (by kernel_rfl) (by kernel_rfl) (by kernel_rfl) (by kernel_rfl) (fun _ _ _ h => h) (by assumption) (Or.inl ⟨by rfl, ?hy384⟩) (fun _ => rfl) ?rest384
                                case hy384 => (intro w hSw; (try dsimp only at hSw); go_simp; try with_reducible rfl)
                                try simp only [Act.put, List.setIfInBounds_toArray, List.set_cons_zero, List.set_cons_succ]
                                refine' ordS_take (i := 23) (oi := { dst := some 110, op := Op.fieldAddr 23 (Operand.tmp 109) 0, type := 0, pos := _, after := #[{ on := 22, ground := Ground.data }, { on := 18, ground := Ground.guard }], guard := some (18, true) }) (v := _) rfl (by kernel_rfl) (by kernel_rfl) (by kernel_rfl) (by kernel_rfl) (fun _ _ _ h => h) (by assumption) (Or.inl ⟨by rfl, ?hy385⟩) (fun _ => rfl) ?rest385
                                case hy385 => (intro w hSw; (try dsimp only at hSw); go_simp; try with_reducible rfl)
                                try simp only [Act.put, List.setIfInBounds_toArray, List.set_cons_zero, List.set_cons_succ]
                                refine' ordS_take (i := 24) (oi := { dst := some 111, op := Op.load 3 (Operand.tmp 110), type := 3, pos := _, after := #[{ on := 23, ground := Ground.data }, { on := 18, ground := Ground.guard }], guard := some (18, true) }) (v := _) rfl (by kernel_rfl) (by kernel_rfl) (by kernel_rfl) (by kernel_rfl) (fun _ _ _ h => h) (by assumption) (Or.inl ⟨by rfl, ?hy386⟩) (fun _ => rfl) ?rest386
                                case hy386 => (intro w hSw; (try dsimp only at hSw); go_simp; try with_reducible rfl)
                                try simp only [Act.put, List.setIfInBounds_toArray, List.set_cons_zero, List.set_cons_succ]
                                refine' ordS_take (i := 25) (oi := { dst := some 112, op := Op.binOp BinOp.mul 3 (Operand.tmp 108) (Operand.tmp 111) 3, type := 3, pos := _, after := #[{ on := 21, ground := Ground.data }, { on := 24, ground := Ground.data }, { on := 18, ground := Ground.guard }], guard := some (18, true) }) (v := _) rfl (by kernel_rfl) (by kernel_rfl) (by kernel_rfl) (by kernel_rfl) (fun _ _ _ h => h) (by assumption) (Or.inl ⟨by rfl, ?hy387⟩) (fun _ => rfl) ?rest387
                                case hy387 => (intro w hSw; (try dsimp only at hSw); go_simp; try with_reducible rfl)
                                try simp only [Act.put, List.setIfInBounds_toArray, List.set_cons_zero, List.set_cons_succ]
                                refine' ordS_take (i := 26) (oi := { dst := some 113, op := Op.fieldAddr 30 (Operand.tmp 15) 0, type := 0, pos := _, after := #[{ on := 18, ground := Ground.guard }], guard := some (18, true) }) (v := _) rfl (by kernel_rfl) (by kernel_rfl) (by kernel_rfl) (by kernel_rfl) (fun _ _ _ h => h) (by assumption) (Or.inl ⟨by rfl, ?hy388⟩) (fun _ => rfl) ?rest388
                                case hy388 => (intro w hSw; (try dsimp only at hSw); go_simp; try with_reducible rfl)
                                try simp only [Act.put, List.setIfInBounds_toArray, List.set_cons_zero, List.set_cons_succ]
                                refine' ordS_take (i := 27) (oi := { dst := some 114, op := Op.load 3 (Operand.tmp 113), type := 3, pos := _, after := #[{ on := 26, ground := Ground.data }, { on := 18, ground := Ground.guard }], guard := some (18, true) }) (v := _) rfl (by kernel_rfl) (by kernel_rfl) (by kernel_rfl) (by kernel_rfl) (fun _ _ _ h => h) (by assumption) (Or.inl ⟨by rfl, ?hy389⟩) (fun _ => rfl) ?rest389
                                case hy389 => (intro w hSw; (try dsimp only at hSw); go_simp; try with_reducible rfl)
                                try simp only [Act.put, List.setIfInBounds_toArray, List.set_cons_zero, List.set_cons_succ]
                                refine' ordS_take (i := 28) (oi := { dst := some 115, op := Op.binOp BinOp.add 3 (Operand.tmp 112) (Operand.tmp 114) 3, type := 3, pos := _, after := #[{ on := 25, ground := Ground.data }, { on := 27, ground := Ground.data }, { on := 18, ground := Ground.guard }], guard := some (18, true) }) (v := _) rfl (by kernel_rfl) (by kernel_rfl) (by kernel_rfl) (by kernel_rfl) (fun _ _ _ h => h) (by assumption) (Or.inl ⟨by rfl, ?hy390⟩) (fun _ => rfl) ?rest390
                                case hy390 => (intro w hSw; (try dsimp only at hSw); go_simp; try with_reducible rfl)
                                try simp only [Act.put, List.setIfInBounds_toArray, List.set_cons_zero, List.set_cons_succ]
                                refine' ordS_take (i := 29) (oi := { dst := some 116, op := Op.indexAddr 42 (Operand.tmp 106) (Operand.tmp 115), type := 0, pos := _, after := #[{ on := 19, ground := Ground.data }, { on := 28, ground := Ground.data }, { on := 18, ground := Ground.guard }], guard := some (18, true) }) (v := _) rfl (by kernel_rfl) (by kernel_rfl) (by kernel_rfl) (by kernel_rfl) (fun _ _ _ h => h) (by assumption) (Or.inl ⟨by rfl, ?hy391⟩) (fun _ => rfl) ?rest391
                                case hy391 => (intro w hSw; (try dsimp only at hSw); go_simp; try with_reducible rfl)
                                try simp only [Act.put, List.setIfInBounds_toArray, List.set_cons_zero, List.set_cons_succ]
                                refine' ordS_take (i := 30) (oi := { dst := some 117, op := Op.load 36 (Operand.tmp 116), type := 36, pos := _, after := #[{ on := 29, ground := Ground.data }, { on := 18, ground := Ground.guard }], guard := some (18, true) }) (v := _) rfl (by kernel_rfl) (by kernel_rfl) (by kernel_rfl) (by kernel_rfl) (fun _ _ _ h => h) (by assumption) (Or.inl ⟨by rfl, ?hy392⟩) (fun _ => rfl) ?rest392
                                case hy392 => (intro w hSw; (try dsimp only at hSw); go_simp; try with_reducible rfl)
                                try simp only [Act.put, List.setIfInBounds_toArray, List.set_cons_zero, List.set_cons_succ]
                                refine' ordS_take (i := 31) (oi := { dst := some 118, op := Op.load 26 (Operand.tmp 3), type := 26, pos := _, after := #[{ on := 18, ground := Ground.guard }], guard := some (18, true) }) (v := _) rfl (by kernel_rfl) (by kernel_rfl) (by kernel_rfl) (by kernel_rfl) (fun _ _ _ h => h) (by assumption) (Or.inl ⟨by rfl, ?hy393⟩) (fun _ => rfl) ?rest393
                                case hy393 => (intro w hSw; (try dsimp only at hSw); go_simp; try with_reducible rfl)
                                try simp only [Act.put, List.setIfInBounds_toArray, List.set_cons_zero, List.set_cons_succ]
                                refine' ordS_take (i := 32) (oi := { dst := some 119, op := Op.load 30 (Operand.tmp 13), type := 30, pos := _, after := #[{ on := 18, ground := Ground.guard }], guard := some (18, true) }) (v := _) rfl (by kernel_rfl) (by kernel_rfl) (by kernel_rfl) (by kernel_rfl) (fun _ _ _ h => h) (by assumption) (Or.inl ⟨by rfl, ?hy394⟩) (fun _ => rfl) ?rest394
                                case hy394 => (intro w hSw; (try dsimp only at hSw); go_simp; try with_reducible rfl)
                                try simp only [Act.put, List.setIfInBounds_toArray, List.set_cons_zero, List.set_cons_succ]
                                refine' ordS_take (i := 35) (oi := { dst := some 122, op := Op.move (Operand.tmp 7), type := 42, pos := _, after := #[{ on := 18, ground := Ground.guard }], guard := some (18, true) }) (v := _) rfl (by kernel_rfl) (by kernel_rfl) (by kernel_rfl) (by kernel_rfl) (fun _ _ _ h => h) (by assumption) (Or.inl ⟨by rfl, ?hy395⟩) (fun _ => rfl) ?rest395
                                case hy395 => (intro w hSw; (try dsimp only at hSw); go_simp; try with_reducible rfl)
                                try simp only [Act.put, List.setIfInBounds_toArray, List.set_cons_zero, List.set_cons_succ]
                                refine' ordS_take (i := 36) (oi := { dst := some 123, op := Op.move (Operand.tmp 11), type := 3, pos := _, after := #[{ on := 18, ground := Ground.guard }], guard := some (18, true) }) (v := _) rfl (by kernel_rfl) (by kernel_rfl) (by kernel_rfl) (by kernel_rfl) (fun _ _ _ h => h) (by assumption) (Or.inl ⟨by rfl, ?hy396⟩) (fun _ => rfl) ?rest396
                                case hy396 => (intro w hSw; (try dsimp only at hSw); go_simp; try with_reducible rfl)
                                try simp only [Act.put, List.setIfInBounds_toArray, List.set_cons_zero, List.set_cons_succ]
                                refine' ordS_take (i := 37) (oi := { dst := some 124, op := Op.fieldAddr 26 (Operand.tmp 3) 0, type := 0, pos := _, after := #[{ on := 18, ground := Ground.guard }], guard := some (18, true) }) (v := _) rfl (by kernel_rfl) (by kernel_rfl) (by kernel_rfl) (by kernel_rfl) (fun _ _ _ h => h) (by assumption) (Or.inl ⟨by rfl, ?hy397⟩) (fun _ => rfl) ?rest397
                                case hy397 => (intro w hSw; (try dsimp only at hSw); go_simp; try with_reducible rfl)
                                try simp only [Act.put, List.setIfInBounds_toArray, List.set_cons_zero, List.set_cons_succ]
                                refine' ordS_take (i := 38) (oi := { dst := some 125, op := Op.fieldAddr 23 (Operand.tmp 124) 0, type := 0, pos := _, after := #[{ on := 37, ground := Ground.data }, { on := 18, ground := Ground.guard }], guard := some (18, true) }) (v := _) rfl (by kernel_rfl) (by kernel_rfl) (by kernel_rfl) (by kernel_rfl) (fun _ _ _ h => h) (by assumption) (Or.inl ⟨by rfl, ?hy398⟩) (fun _ => rfl) ?rest398
                                case hy398 => (intro w hSw; (try dsimp only at hSw); go_simp; try with_reducible rfl)
                                try simp only [Act.put, List.setIfInBounds_toArray, List.set_cons_zero, List.set_cons_succ]
                                refine' ordS_take (i := 39) (oi := { dst := some 126, op := Op.load 3 (Operand.tmp 125), type := 3, pos := _, after := #[{ on := 38, ground := Ground.data }, { on := 18, ground := Ground.guard }], guard := some (18, true) }) (v := _) rfl (by kernel_rfl) (by kernel_rfl) (by kernel_rfl) (by kernel_rfl) (fun _ _ _ h => h) (by assumption) (Or.inl ⟨by rfl, ?hy399⟩) (fun _ => rfl) ?rest399
                                case hy399 => (intro w hSw; (try dsimp only at hSw); go_simp; try with_reducible rfl)
                                try simp only [Act.put, List.setIfInBounds_toArray, List.set_cons_zero, List.set_cons_succ]
                                refine' ordS_take (i := 40) (oi := { dst := some 127, op := Op.binOp BinOp.mul 3 (Operand.tmp 123) (Operand.tmp 126) 3, type := 3, pos := _, after := #[{ on := 36, ground := Ground.data }, { on := 39, ground := Ground.data }, { on := 18, ground := Ground.guard }], guard := some (18, true) }) (v := _) rfl (by kernel_rfl) (by kernel_rfl) (by kernel_rfl) (by kernel_rfl) (fun _ _ _ h => h) (by assumption) (Or.inl ⟨by rfl, ?hy400⟩) (fun _ => rfl) ?rest400
                                case hy400 => (intro w hSw; (try dsimp only at hSw); go_simp; try with_reducible rfl)
                                try simp only [Act.put, List.setIfInBounds_toArray, List.set_cons_zero, List.set_cons_succ]
                                refine' ordS_take (i := 41) (oi := { dst := some 128, op := Op.move (Operand.tmp 12), type := 3, pos := _, after := #[{ on := 18, ground := Ground.guard }], guard := some (18, true) }) (v := _) rfl (by kernel_rfl) (by kernel_rfl) (by kernel_rfl) (by kernel_rfl) (fun _ _ _ h => h) (by assumption) (Or.inl ⟨by rfl, ?hy401⟩) (fun _ => rfl) ?rest401
                                case hy401 => (intro w hSw; (try dsimp only at hSw); go_simp; try with_reducible rfl)
                                try simp only [Act.put, List.setIfInBounds_toArray, List.set_cons_zero, List.set_cons_succ]
                                refine' ordS_take (i := 42) (oi := { dst := some 129, op := Op.binOp BinOp.add 3 (Operand.tmp 127) (Operand.tmp 128) 3, type := 3, pos := _, after := #[{ on := 40, ground := Ground.data }, { on := 41, ground := Ground.data }, { on := 18, ground := Ground.guard }], guard := some (18, true) }) (v := _) rfl (by kernel_rfl) (by kernel_rfl) (by kernel_rfl) (by kernel_rfl) (fun _ _ _ h => h) (by assumption) (Or.inl ⟨by rfl, ?hy402⟩) (fun _ => rfl) ?rest402
                                case hy402 => (intro w hSw; (try dsimp only at hSw); go_simp; try with_reducible rfl)
                                try simp only [Act.put, List.setIfInBounds_toArray, List.set_cons_zero, List.set_cons_succ]
                                refine' ordS_take (i := 43) (oi := { dst := some 130, op := Op.indexAddr 42 (Operand.tmp 122) (Operand.tmp 129), type := 0, pos := _, after := #[{ on := 35, ground := Ground.data }, { on := 42, ground := Ground.data }, { on := 18, ground := Ground.guard }], guard := some (18, true) }) (v := _) rfl (by kernel_rfl) (by kernel_rfl) (by kernel_rfl) (by kernel_rfl) (fun _ _ _ h => h) (by assumption) (Or.inl ⟨by rfl, ?hy403⟩) (fun _ => rfl) ?rest403
                                case hy403 => (intro w hSw; (try dsimp only at hSw); go_simp; try with_reducible rfl)
                                try simp only [Act.put, List.setIfInBounds_toArray, List.set_cons_zero, List.set_cons_succ]
                                refine' ordS_take (i := 44) (oi := { dst := some 131, op := Op.load 36 (Operand.tmp 130), type := 36, pos := _, after := #[{ on := 43, ground := Ground.data }, { on := 18, ground := Ground.guard }], guard := some (18, true) }) (v := _) rfl (by kernel_rfl) (by kernel_rfl) (by kernel_rfl) (by kernel_rfl) (fun _ _ _ h => h) (by assumption) (Or.inl ⟨by rfl, ?hy404⟩) (fun _ => rfl) ?rest404
                                case hy404 => (intro w hSw; (try dsimp only at hSw); go_simp; try with_reducible rfl)
                                try simp only [Act.put, List.setIfInBounds_toArray, List.set_cons_zero, List.set_cons_succ]
                                refine ordS_one (i := 33) (o := { dst := some 120, op := Op.call { callee := Callee.value (Operand.func 36), args := #[Operand.tmp 118, Operand.tmp 119], argTypes := #[26, 30] }, type := 36, pos := _, after := #[{ on := 31, ground := Ground.data }, { on := 32, ground := Ground.data }, { on := 18, ground := Ground.chain }, { on := 18, ground := Ground.guard }], guard := some (18, true) }) (by kernel_rfl) rfl (by rfl) (fun K hK => ?_)
                                go_simp
                                refine ⟨trivial, ?_⟩
                                with_reducible refine (callsIn_wide.2 (HCC.out _ (HRW.out _ hB))).mono ?_
                                rintro e W4 ⟨rfl, hbW4⟩
                                replace hB := bl_tr hB hbW4
                                have hS4 : (fun W9 : World => W9.cell? ⟨w.heap.size, 0, none⟩ = some (.int .i64 A) ∧ W9.cell? ⟨w.heap.size, 1, none⟩ = some (.int .i64 B) ∧ W9.cell? ⟨w.heap.size, 2, none⟩ = some (.slice a zs.length cap) ∧ W9.cell? ⟨w.heap.size + 1, 0, none⟩ = some (.int .i64 X) ∧ W9.cell? ⟨w.heap.size + 1, 1, none⟩ = some (.int .i64 Y) ∧ W9.cell? ⟨w.heap.size + 1, 2, none⟩ = some (.int .i64 U) ∧ W9.cell? ⟨w.heap.size + 1, 3, none⟩ = some (.int .i64 V) ∧ W9.cell? ⟨cp, 0, none⟩ = some (.int .i64 x) ∧ W9.cell? ⟨cp, 1, none⟩ = some (.int .i64 y) ∧ W9.cell? ⟨mp, 0, none⟩ = some (.int .i64 M.1) ∧ W9.cell? ⟨mp, 1, none⟩ = some (.int .i64 M.2) ∧ W9.cell? ⟨w.heap.size + 1 + 1 + 1, mi, none⟩ = some (.int .u64 v) ∧ W9.cell? ⟨w.heap.size + 1 + 1 + 1, ci, none⟩ = some (.int .u64 u)) W4 := ⟨cell_later hbW4 hS3.1, cell_later hbW4 hS3.2.1, cell_later hbW4 hS3.2.2.1, cell_later hbW4 hS3.2.2.2.1, cell_later hbW4 hS3.2.2.2.2.1, cell_later hbW4 hS3.2.2.2.2.2.1, cell_later hbW4 hS3.2.2.2.2.2.2.1, cell_later hbW4 hS3.2.2.2.2.2.2.2.1, cell_later hbW4 hS3.2.2.2.2.2.2.2.2.1, cell_later hbW4 hS3.2.2.2.2.2.2.2.2.2.1, cell_later hbW4 hS3.2.2.2.2.2.2.2.2.2.2.1, cell_later hbW4 hS3.2.2.2.2.2.2.2.2.2.2.2.1, cell_later hbW4 hS3.2.2.2.2.2.2.2.2.2.2.2.2⟩
                                refine hK _ _ hS4 ?_
                                clear hK K
                                try simp only [Act.put, List.setIfInBounds_toArray, List.set_cons_zero, List.set_cons_succ]
                                refine' ordS_take (i := 34) (oi := { dst := some 121, op := Op.binOp BinOp.add 36 (Operand.tmp 117) (Operand.tmp 120) 36, type := 36, pos := _, after := #[{ on := 30, ground := Ground.data }, { on := 33, ground := Ground.data }, { on := 18, ground := Ground.guard }], guard := some (18, true) }) (v := _) rfl (by kernel_rfl) (by kernel_rfl) (by kernel_rfl) (by kernel_rfl) (fun _ _ _ h => h) (by assumption) (Or.inl ⟨by rfl, ?hy405⟩) (fun _ => rfl) ?rest405
                                case hy405 => (intro w hSw; (try dsimp only at hSw); go_simp; try with_reducible rfl)
                                try simp only [Act.put, List.setIfInBounds_toArray, List.set_cons_zero, List.set_cons_succ]
                                refine' ordS_take (i := 45) (oi := { dst := some 132, op := Op.binOp BinOp.lss 36 (Operand.tmp 121) (Operand.tmp 131) 36, type := 4, pos := _, after := #[{ on := 34, ground := Ground.data }, { on := 44, ground := Ground.data }, { on := 18, ground := Ground.guard }], guard := some (18, true) }) (v := _) rfl (by kernel_rfl) (by kernel_rfl) (by kernel_rfl) (by kernel_rfl) (fun _ _ _ h => h) (by assumption) (Or.inl ⟨by rfl, ?hy406⟩) (fun _ => rfl) ?rest406
                                case hy406 => (intro w hSw; (try dsimp only at hSw); go_simp; try with_reducible rfl)
                                try simp only [Act.put, List.setIfInBounds_toArray, List.set_cons_zero, List.set_cons_succ]
                                refine' ordS_take (i := 46) (oi := { dst := some 133, op := Op.pick (Operand.tmp 105) (Operand.tmp 132) (Operand.const (Value.bool false)), type := 4, pos := _, after := #[{ on := 18, ground := Ground.data }, { on := 45, ground := Ground.data }], guard := none }) (v := _) rfl (by kernel_rfl) (by kernel_rfl) (by kernel_rfl) (by kernel_rfl) (fun _ _ _ h => h) (by assumption) (Or.inl ⟨by rfl, ?hy407⟩) (fun _ => rfl) ?rest407
                                case hy407 => (intro w hSw; (try dsimp only at hSw); go_simp; try with_reducible rfl)
                                try simp only [Act.put, List.setIfInBounds_toArray, List.set_cons_zero, List.set_cons_succ]
                                refine ordS_done (by kernel_rfl) ?_
                                have HI9 := Lib.hid (HI1.out.below hB)
                                have q0 := cell_later hB kp0
                                have q1 := cell_later hB kp1
                                clear hS hS3 hS4 hB kp0 kp1 kf0 kf1 kf2 kx0 kx1 kx2 kx3 km0 km1 ku kv zk0 zk1 zk2 zk3 zk4
                                go_wp2
                                go_roundw
                                case rel => exact ⟨d + 1, t, by omega, by go_num, rfl, fun h => by rw [HEQ.out]; exact HTD.out h, by rw [HEQ.out]; exact HI9.out, q0, q1⟩
                                case measure => simp [intOf]; omega
                        · obtain rfl : d = 4 := by omega
                          have hge : ¬ ((4 : Nat) : Int) < 4 := by omega
                          rw [← HG4.out] at htd hI
                          have HTD := Lib.hid htd
                          clear htd p0 p1
                          go_wp2
                          go_roundw
                          case rel => exact ⟨i + 1, t, by omega, by go_num, rfl, HTD.out, hI⟩
                          case measure => simp [intOf]; have := HXI.out; omega
                  · obtain rfl : i = U := by omega
                    have hge : ¬ X + (i : Int) < X + (i : Int) := by omega
                    rw [← HEU.out] at hti hI
                    have HTI := Lib.hid hti
                    have HII := Lib.hid hI
                    clear hti hI
                    go_wp2
                    go_roundw
                    case rel => exact ⟨j + 1, t, by omega, by go_num, rfl, HTI.out, HII.out⟩
                    case measure => simp [intOf]; have := HYJ.out; omega
              · obtain rfl : j = V := by omega
                have hge : ¬ Y + (j : Int) < Y + (j : Int) := by omega
                rw [← HDV.out] at htj hI
                have HII := Lib.hid hI
                cases t
                · have hq : I (k + 1) = I k := (htj rfl).trans hstk.symm
                  have hq2 := HIF.out k hk hq
                  have hRe : R = I (k + 1) := by rw [HF2.out, hq2, hq]
                  have HRU := Lib.hid (show RowU wr (some ⟨w.heap.size + 1 + 1 + 1, 0, none⟩) R by rw [hRe]; exact hI.rowU)
                  have hA := hI.bel
                  clear htj hI hq hq2 hRe
                  go_wp2
                  go_ret
                  exact ⟨_, rfl, HRU.out, hA⟩
                · clear htj hI
                  go_wp2
                  go_roundw
                  case rel => exact ⟨k + 1, by omega, by go_num, HII.out⟩
                  case measure => simp [intOf]; omega
          · obtain rfl : k = zs.length := by omega
            have hge : ¬ (zs.length : Int) < (zs.length : Int) := by omega
            have HRU := Lib.hid (show RowU wr (some ⟨w.heap.size + 1 + 1 + 1, 0, none⟩) R by rw [HF2.out]; exact hI.rowU)
            have hA := hI.bel
            clear hI
            go_wp2
            go_ret
            exact ⟨_, rfl, HRU.out, hA⟩
end Go.Proofs.YtgbhafadibdmcaaDoor
