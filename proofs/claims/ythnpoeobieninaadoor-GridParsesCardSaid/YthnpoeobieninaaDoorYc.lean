/- Print: its contract. -/
import Derived.Test.YthnpoeobieninaaDoorYb
import Derived.WalkMore
namespace Go.Proofs.YthnpoeobieninaaDoor
open Go.RowKit Go.Shelf
attribute [local go_sem] Oper.semAt_some

set_option maxHeartbeats 1600000 in
theorem print_no (X Y : Int) (a : Option Addr) (n c : Nat) (w : World) (hc : chkF X Y n ≠ 0) :
    Calls Tryd.prog 18 #[.agg #[.int .i64 X, .int .i64 Y, .slice a n c]] w fun e w' => e = .returned (.tuple #[.string ⟨#[]⟩, .int .i64 (chkF X Y n)]) ∧ Below w.heap.size w w' := by
  have hA := bl0 w
  obtain ⟨q, hq⟩ : ∃ q, chkF X Y n = q := ⟨_, rfl⟩
  have h5 : (q != 0) = true := by rw [bne_iff_ne, ← hq]; exact hc
  rw [hq]
  have HQ := Lib.hid hq
  clear hc hq
  go_enter Tryd.func18, Tryd.ntmps18
  go_wp2_with fail
  refine (check_any _ _ _ _ _ _).mono ?_
  rintro e w1 ⟨rfl, hb⟩
  have hk : Below w.heap.size w w1 := by first | exact hb | exact bl_tr (bl_al (bl0 _) _) hb | exact bl_tr (bl_dr (bl_al (bl0 _) _)) hb | exact bl_tr (bl_al (bl_al (bl0 _) _) _) hb | exact bl_tr (bl_dr (bl_al (bl_al (bl0 _) _) _)) hb | exact bl_tr (bl_al (bl_al (bl_al (bl0 _) _) _) _) hb | exact bl_tr (bl_dr (bl_al (bl_al (bl_al (bl0 _) _) _) _)) hb | exact bl_tr (bl_al (bl_al (bl_al (bl_al (bl0 _) _) _) _) _) hb | exact bl_tr (bl_dr (bl_al (bl_al (bl_al (bl_al (bl0 _) _) _) _) _)) hb | exact bl_tr (bl_al (bl_al (bl_al (bl_al (bl_al (bl0 _) _) _) _) _) _) hb | exact bl_tr (bl_dr (bl_al (bl_al (bl_al (bl_al (bl_al (bl0 _) _) _) _) _) _)) hb | exact bl_tr (bl_al (bl_al (bl_al (bl_al (bl_al (bl_al (bl0 _) _) _) _) _) _) _) hb | exact bl_tr (bl_dr (bl_al (bl_al (bl_al (bl_al (bl_al (bl_al (bl0 _) _) _) _) _) _) _)) hb | exact bl_tr (bl_dr (bl0 _)) hb
  replace hA := bl_tr hA hk
  clear hb hk
  rw [HQ.out]
  go_wp2
  go_ret2
  exact ⟨rfl, hA⟩

theorem cell_one_new (w : World) (u : Value) (t : TypeId) (j : Nat) (x : Value) (h : [u][j]? = some x) : (w.alloc (.cells #[u] t)).cell? ((⟨w.heap.size, 0, none⟩ : Addr).add j) = some x := by
  rcases j with _ | j
  · simp at h
    subst h
    simp [Addr.add, go_sem]
  · simp at h
theorem own_slice {w : World} {base : Nat} {e : TypeId} {size n : Nat} {v : Value} {xs : List Value} (h : w.ownsRow base e size v n xs) : ∃ a n' cap, v = .slice a n' cap := by
  rcases h.2 with ⟨rfl, _⟩ | ⟨g, cap, cur, rfl, _⟩
  · exact ⟨_, _, _, rfl⟩
  · exact ⟨_, _, _, rfl⟩
set_option maxRecDepth 100000 in
set_option maxHeartbeats 4000000 in
theorem print_yes (k m N b o cap : Nat) (zs : List Int) (w : World) (hr : RowH w (some ⟨b, o, none⟩) zs) (hin : AllH zs) (hN : m * k = N) (hl : zs.length = N) (hcap : N ≤ cap) (hl6 : N ≤ 3000) (hk : 1 ≤ k) (hm : 1 ≤ m) (hx : chkF k m (N : Int) = 0) (hS : Sits w) :
    Calls Tryd.prog 18 #[.agg #[.int .i64 k, .int .i64 m, .slice (some ⟨b, o, none⟩) N cap]] w fun e w' => e = .returned (.tuple #[.string ⟨(textTo k zs m).toArray⟩, .int .i64 0]) ∧ Below w.heap.size w w' := by
  obtain ⟨i0, hi, hz0, hz1, hz2⟩ := info_parts Tryd.infoU8
  have hA := bl0 w
  have HX := Lib.hid hx
  clear hx
  refine (callsIn_wide (n := 11)).1 (callsIn_of_wp_marks Tryd.func18 rfl trivial ?_ rfl)
  simp only [Tryd.ntmps18, List.size_toArray, List.length_cons, List.length_nil, Nat.reduceAdd, Nat.reduceSub, Array.replicate_succ, Array.replicate_zero, List.push_toArray, List.append_toArray, List.nil_append, List.cons_append]
  gi_wp2_with fail
  refine ⟨trivial, ?_⟩
  refine (callsIn_wide.2 (check_any _ _ _ _ _ _)).mono ?_
  rw [HX.out]
  rintro e w1 ⟨rfl, hb⟩
  have f0 : w1.cell? ⟨w.heap.size, 0, none⟩ = some (.int .i64 (k : Int)) := cell_later hb (by simp [go_sem])
  have f2 : w1.cell? ⟨w.heap.size, 2, none⟩ = some (.slice (some ⟨b, o, none⟩) N cap) := cell_later hb (by simp [go_sem])
  replace hA := bl_tr (bl_al hA _) hb
  have hr1 := hr.below hA
  have z0 := blk_lt f0
  clear hb
  gi_wp2_with fail
  obtain ⟨Wt, hWt⟩ : ∃ Wt, w1.alloc (.cells #[.slice none 0 0] 66) = Wt := ⟨_, rfl⟩
  have hzt : Wt.heap.size = w1.heap.size + 1 := by rw [← hWt]; simp
  have hbt : Below w1.heap.size w1 Wt := by rw [← hWt]; exact bl_al (bl0 _) _
  have hvt : Boxed Wt w1.heap.size 66 (.slice none 0 0) := by rw [← hWt]; exact Boxed.new w1 _ _
  rw [hWt]
  clear hWt
  refine ⟨trivial, ?_⟩
  refine (callsIn_wide.2 (chunk_mk b o N cap k hk _)).mono ?_
  rintro e W0 ⟨rfl, hC, hz, hb⟩
  rw [hzt] at hC hz
  obtain ⟨tb, htb0⟩ : ∃ tb, w1.heap.size = tb := ⟨_, rfl⟩
  obtain ⟨B, hB0⟩ : ∃ B, tb + 3 = B := ⟨_, rfl⟩
  have htb : tb + 3 = B := hB0
  have hI0 : PrintI w1 B tb [] W0 := ⟨by rw [← htb0]; exact bl_tr hbt hb, by omega, _, by rw [← htb0]; exact hvt.kept (grown_of_below hb) (fun e => by cases e), World.ownsRow_nil _ _ _ _⟩
  have hw1 : tb ≤ w1.heap.size := by omega
  rw [htb0] at hC
  rw [htb0, hzt, htb0]
  gi_wp2_with fail
  have hzB : W0.heap.size = B := by omega
  have hNk : k ≤ N := by rw [← hN]; exact Nat.le_mul_of_pos_left k hm
  have hNm : m ≤ N := by rw [← hN]; exact Nat.le_mul_of_pos_right m hk
  have hbb : b < tb := by
    obtain ⟨b', o', e, q⟩ := hr.cell (k := 0) (by omega)
    cases e
    have := blk_lt q
    have := hA.size
    omega
  have hix : ∀ (j x : Nat), j < m → x < k → j * k + x < N := fun j x h1 h2 => by
    have h3 : (j + 1) * k ≤ m * k := Nat.mul_le_mul_right k h1
    rw [Nat.add_mul, Nat.one_mul] at h3
    omega
  have hcell : ∀ (j x : Nat) (W : World), Below tb w1 W → j < m → x < k → W.cell? ⟨b, o + j * k + x, none⟩ = some (.int .u16 (zs.getD (j * k + x) 0)) := fun j x W hW h1 h2 => by
    have hlt := hix j x h1 h2
    rcases hr1 with h | ⟨b', o', e, hc⟩
    · rw [h] at hl; simp at hl; omega
    · cases e
      have q := hc (j * k + x) _ (List.getElem?_eq_getElem (by omega))
      rw [← Nat.add_assoc] at q
      rw [List.getD_eq_getElem?_getD, List.getElem?_eq_getElem (by omega)]
      exact cell_low hW hbb q
  have hTL : ∀ j x, j < m → x ≤ k → (textTo k zs j ++ rowTo k zs j x).length ≤ 40000 := fun j x h1 h2 => by
    have p1 := textTo_len hin k j
    have p2 := rowTo_len hin k j x
    have p3 : j * k ≤ N := by rw [← hN]; exact Nat.mul_le_mul_right k (by omega)
    have p4 : j * (6 * k + 1) = 6 * (j * k) + j := by rw [Nat.mul_add, Nat.mul_one, ← Nat.mul_assoc, Nat.mul_comm j 6, Nat.mul_assoc]
    rw [List.length_append]
    omega
  have HCELL := Lib.hid hcell
  clear hcell
  refine range_q (tb + 1) 2 45 _ (List.range m) (iter_chunk (tb + 1) b o cap k m W0 hk (by omega) (by omega) (by rw [hN]; exact hC)) rfl (fun _ => rfl) (by omega) (enters_of Tryd.func45 (by kernel_rfl) rfl)
    (fun pre W => PrintI w1 B tb (textTo k zs pre.length) W) (fun _ _ _ => False)
    (fun s C D row hs hg hr => printI_own (by omega) (by omega) hw1 hs hg hr) (fun _ _ _ _ _ h _ _ => h)
    (fun s C D row hs hg hr => printI_abp htb hw1 hs hg hr) (fun _ _ _ _ _ h _ _ => h)
    hI0
    (fun j a' _ => a' = { tmps := #[.agg #[.int .i64 (k : Int), .int .i64 (m : Int), .slice (some ⟨b, o, none⟩) N cap], .pointer (some ⟨w.heap.size, 0, none⟩), .string ⟨#[]⟩, .int .i64 0, .int .i64 0, .pointer (some ⟨tb, 0, none⟩), .slice (some ⟨b, o + j * k, none⟩) k k, undef, undef, .agg #[.int .i64 (k : Int), .int .i64 (m : Int), .slice (some ⟨b, o, none⟩) N cap], .int .i64 0, .int .i64 0, .bool false, undef, .pointer (some ⟨w.heap.size, 2, none⟩), .slice (some ⟨b, o, none⟩) N cap, .pointer (some ⟨w.heap.size, 0, none⟩), .pointer (some ⟨w.heap.size, 0, none⟩), .int .i64 (k : Int), .func (.func 45) #[] #[.pointer (some ⟨tb + 1, 0, none⟩), .pointer (some ⟨tb + 1 + 1, 0, none⟩)], .slice (some ⟨b, o + j * k, none⟩) k k, undef, undef, undef, undef, undef, undef, undef, undef, undef, undef, undef, undef, undef, undef, undef, undef, undef, undef, undef, undef, undef, undef, undef, undef, undef], defers := [] })
    (fun _ _ _ _ _ _ h _ _ => h) ?assign ?body ?done ?stop
  case assign =>
    rintro l pre j W K hi' hK
    have hK' := hK _ _ (KeepsFrom.refl _ _) (KP.refl _ _ _) hi' rfl
    clear hK
    simp [encP]
    gi_wp2
    exact hK'
  case body =>
    rintro l pre j a' W hWl _ hI rfl hlt
    obtain ⟨hj, hjm⟩ : pre.length = j ∧ j < m := by
      have h1 := hlt.length_le
      have h2 := hlt.getElem (i := pre.length) (by simp)
      simp at h1 h2
      exact ⟨h2.symm, by omega⟩
    rw [hj] at hI
    have HT := Lib.hid (show textTo k zs (pre ++ [j]).length = textTo k zs j ++ (rowTo k zs j k ++ [10]) by rw [List.length_append, hj]; exact textTo_succ k zs j)
    gi_wp2
    gi_loopw [23] (fun i wr => ∃ x : Nat, x ≤ k ∧ i = .int .i64 x ∧ PrintI w1 B tb (textTo k zs j ++ rowTo k zs j x) wr ∧ KeepsFrom W0.heap.size W wr ∧ KP (tb + 1) 2 W wr) (fun i _ => k - (intOf i).toNat)
    case atStart => exact ⟨0, Nat.zero_le _, rfl, by rw [rowTo_zero, List.append_nil]; exact hI, KeepsFrom.refl _ _, KP.refl _ _ _⟩
    case round =>
      obtain ⟨x, hxk, rfl, hP, hK, hKP⟩ := hrel
      by_cases hlt2 : x < k
      · have hlt3 : (x : Int) < (k : Int) := by omega
        have hx0 : (0 : Int) ≤ (x : Int) := by omega
        have q := HCELL.out j x wr hP.1 hjm hlt2
        obtain ⟨z1, z2⟩ := getD_in hin (j * k + x)
        have HR := Lib.hid (rowTo_succ k zs j x)
        obtain ⟨u, hu0⟩ : ∃ u : Nat, zs.getD (j * k + x) 0 = (u : Int) := ⟨(zs.getD (j * k + x) 0).toNat, by omega⟩
        have HU := Lib.hid hu0
        rw [hu0] at q z1 z2
        have hu : u ≤ 65535 := by omega
        have hww : IntKind.u64.wrap (u : Int) = (u : Int) := IntWalk.u64_in _ (by omega)
        have hlb := hTL j x hjm (by omega)
        obtain ⟨TX, hTX⟩ : ∃ TX, textTo k zs j ++ rowTo k zs j x = TX := ⟨_, rfl⟩
        rw [hTX] at hP hlb
        have HTX := Lib.hid hTX
        clear hTX
        clear hu0
        by_cases hx1 : x = 0
        · have hx2 : ¬ (0 : Int) < (x : Int) := by omega
          have hx3 : (x : Int) ≤ 0 := by omega
          have HX0 := Lib.hid hx1
          have hb9 := hP
          clear hx1 hP
          have q9 := hb9.1
          obtain ⟨hq1, hq2, v9, hv9, hown9⟩ := hb9
          have c9 := hv9.cell
          have fr9 := hv9.frozen
          have HS9 := Lib.hid (hS.later (hA.trans (hq1.mono (by have := hA.size; omega))))
          have HOW := Lib.hid hown9
          have hlen9 : TX.length + 20 ≤ 140737488355328 := (by omega)
          clear q9 hown9
          gi_wp2_with fail
          refine ⟨trivial, ?_⟩
          refine (CallsIn.inRound l (callsIn_wide.2 (appendu_any B _ u hu v9 _ _ HOW.out hq2 hlen9 HS9.out))).mono ?_
          rintro e w6 ⟨v6, rfl, hown6, hb6, hok6⟩
          rw [← Lib.byteCells_append, ← List.length_append] at hown6
          obtain ⟨r1, r2, r3, r4⟩ := printI_call htb hq1 hq2 hv9 hown6 hb6 hok6
          have c6 := r1.cell
          have fr6 := r1.frozen
          obtain ⟨a6, n6, cap6, rfl⟩ := own_slice hown6
          have HR2 := Lib.hid (show PrintI w1 B tb (textTo k zs j ++ rowTo k zs j (x + 1)) _ by
            have h := r2
            rw [HR.out, HU.out, ← List.append_assoc, HTX.out]
            simpa [costT, HX0.out] using h)
          have HR3 := Lib.hid (hK.trans (r3 W0.heap.size))
          have HR4 := Lib.hid (hKP.trans r4)
          clear r1 r2 r3 r4 hown6 hb6 hok6 hK hKP hv9 c9 fr9 q
          gi_wp2
          go_roundw
          case rel => exact ⟨x + 1, by omega, by go_num, HR2.out, HR3.out, HR4.out⟩
          case measure => simp [intOf]; omega
        · have hx2 : (0 : Int) < (x : Int) := by omega
          have HX0 := Lib.hid hx1
          clear hx1
          obtain ⟨hq1, hq2, v5, hv5, hown5⟩ := hP
          have c5 := hv5.cell
          have fr5 := hv5.frozen
          gi_wp2_with (gi_at_builtin; refine wpListIn_append_own _ rfl _ _ 66 rfl B 5 i0 (.int .u8 0) 1 1 Tryd.underlying66 hi hz0 hz1 hz2 rfl (by decide) _ _ _ rfl (hown5.alloc _) ⟨wr.heap.size, 0, none⟩ 1 1 [.int .u8 32] rfl rfl ?c1 ?c2 ?c3 ?c4 ?c5 ?_)
          case c1 => exact cell_one_new _ _ _
          case c2 => intro u hu; simp at hu; subst hu; rfl
          case c3 => unfold maxLen; omega
          case c4 => omega
          case c5 => rw [World.size_alloc]; omega
          intro v7 w7 hown7 hgrow _
          obtain ⟨TY, hTY⟩ : ∃ TY, TX ++ [(32 : UInt8)] = TY := ⟨_, rfl⟩
          have hown8 : w7.ownsRow B 5 1 v7 (TX ++ [(32 : UInt8)]).length (Lib.byteCells (TX ++ [(32 : UInt8)])) := by
            rw [List.length_append (bs := [32]), Lib.byteCells_append]
            exact hown7
          obtain ⟨a7, n7, cap7, rfl⟩ := own_slice hown8
          obtain ⟨s1, s2, s3, s4⟩ := printI_app htb hw1 hq1 hq2 hv5 hown5 hown8 hgrow
          have c7 := s1.cell
          have fr7 := s1.frozen
          have hlb2 : TY.length ≤ 40001 := by rw [← hTY, List.length_append, List.length_singleton]; omega
          rw [hTY] at s2
          have HTY := Lib.hid hTY
          have hb9 := s2
          clear s1 s2 hown7 hown8 hgrow hTY hv5 hown5 hq1 hq2 c5 fr5
          have q9 := hb9.1
          obtain ⟨hq1, hq2, v9, hv9, hown9⟩ := hb9
          have c9 := hv9.cell
          have fr9 := hv9.frozen
          have HS9 := Lib.hid (hS.later (hA.trans (hq1.mono (by have := hA.size; omega))))
          have HOW := Lib.hid hown9
          have hlen9 : TY.length + 20 ≤ 140737488355328 := by omega
          clear q9 hown9
          gi_wp2_with fail
          refine ⟨trivial, ?_⟩
          refine (CallsIn.inRound l (callsIn_wide.2 (appendu_any B _ u hu v9 _ _ HOW.out hq2 hlen9 HS9.out))).mono ?_
          rintro e w6 ⟨v6, rfl, hown6, hb6, hok6⟩
          rw [← Lib.byteCells_append, ← List.length_append] at hown6
          obtain ⟨r1, r2, r3, r4⟩ := printI_call htb hq1 hq2 hv9 hown6 hb6 hok6
          have c6 := r1.cell
          have fr6 := r1.frozen
          obtain ⟨a6, n6, cap6, rfl⟩ := own_slice hown6
          have HR2 := Lib.hid (show PrintI w1 B tb (textTo k zs j ++ rowTo k zs j (x + 1)) _ by
            have h := r2
            rw [HR.out, HU.out, ← List.append_assoc, HTX.out]
            rw [← HTY.out] at h
            simpa [costT, HX0.out] using h)
          have HR3 := Lib.hid ((hK.trans (s3 W0.heap.size)).trans (r3 W0.heap.size))
          have HR4 := Lib.hid ((hKP.trans s4).trans r4)
          clear r1 r2 r3 r4 s3 s4 hown6 hb6 hok6 hK hKP hv9 q
          gi_wp2
          go_roundw
          case rel => exact ⟨x + 1, by omega, by go_num, HR2.out, HR3.out, HR4.out⟩
          case measure => simp [intOf]; omega
      · obtain rfl : x = k := by omega
        have hge : (x : Int) ≤ (x : Int) := Int.le_refl _
        obtain ⟨TX, hTX⟩ : ∃ TX, textTo x zs j ++ rowTo x zs j x = TX := ⟨_, rfl⟩
        have hlb := hTL j x hjm (Nat.le_refl _)
        rw [hTX] at hP hlb
        have HTX := Lib.hid hTX
        clear hTX
        obtain ⟨hq1, hq2, v5, hv5, hown5⟩ := hP
        have c5 := hv5.cell
        have fr5 := hv5.frozen
        gi_wp2_with (gi_at_builtin; refine wpListIn_append_own _ rfl _ _ 66 rfl B 5 i0 (.int .u8 0) 1 1 Tryd.underlying66 hi hz0 hz1 hz2 rfl (by decide) _ _ _ rfl (hown5.alloc _) ⟨wr.heap.size, 0, none⟩ 1 1 [.int .u8 10] rfl rfl ?c1 ?c2 ?c3 ?c4 ?c5 ?_)
        case c1 => exact cell_one_new _ _ _
        case c2 => intro u hu; simp at hu; subst hu; rfl
        case c3 => unfold maxLen; omega
        case c4 => omega
        case c5 => rw [World.size_alloc]; omega
        intro v7 w7 hown7 hgrow _
        have hown8 : w7.ownsRow B 5 1 v7 (TX ++ [(10 : UInt8)]).length (Lib.byteCells (TX ++ [(10 : UInt8)])) := by
          rw [List.length_append (bs := [10]), Lib.byteCells_append]
          exact hown7
        obtain ⟨a7, n7, cap7, rfl⟩ := own_slice hown8
        obtain ⟨s1, s2, s3, s4⟩ := printI_app htb hw1 hq1 hq2 hv5 hown5 hown8 hgrow
        have c7 := s1.cell
        have fr7 := s1.frozen
        have HR2 := Lib.hid (show PrintI w1 B tb (textTo x zs (pre ++ [j]).length) _ by
          rw [HT.out, ← List.append_assoc, HTX.out]
          exact s2)
        have HR3 := Lib.hid (hK.trans (s3 W0.heap.size))
        have HR4 := Lib.hid (hKP.trans s4)
        clear s1 s2 s3 s4 hown7 hown8 hgrow hK hKP hv5 hown5
        gi_wp2
        exact ⟨HR3.out, HR4.out, HR2.out⟩
  case done =>
    rintro D W hD hI hK
    rw [List.length_range] at hI
    obtain ⟨hq1, hq2, v5, hv5, hown5⟩ := hI
    have c5 := hv5.cell
    have hTM : (textTo k zs m).length ≤ 40000 := by
      have p1 := textTo_len hin k m
      have p4 : m * (6 * k + 1) = 6 * (m * k) + m := by rw [Nat.mul_add, Nat.mul_one, ← Nat.mul_assoc, Nat.mul_comm m 6, Nat.mul_assoc]
      rw [hN] at p4
      omega
    have hT1 : 1 ≤ (textTo k zs m).length := by
      obtain ⟨m', rfl⟩ : ∃ m', m = m' + 1 := ⟨m - 1, by omega⟩
      rw [textTo_succ, List.length_append, List.length_append, List.length_singleton]
      omega
    obtain ⟨TX, hTX⟩ : ∃ TX, textTo k zs m = TX := ⟨_, rfl⟩
    rw [hTX] at hown5 hTM hT1
    have HTX := Lib.hid hTX
    clear hTX
    obtain ⟨g, cap5, rfl⟩ : ∃ g cap5, v5 = .slice (some ⟨g, 0, none⟩) TX.length cap5 := by
      rcases hown5.2 with ⟨_, h0⟩ | ⟨g, c5, cur, e, _⟩
      · omega
      · exact ⟨g, c5, e⟩
    have hcv := run_convert_bytes_back (P := Tryd.prog) W 66 9 5 ⟨g, 0, none⟩ cap5 TX Tryd.underlying66 Tryd.underlying5 Tryd.underlying9 (fun j hj => hown5.cells (g := g) rfl j _ (by simp [Lib.byteCells, hj]))
    have hlen5 : (TX.length : Int) ≤ 131072 := by omega
    have hFB := hA.trans (hq1.mono (show w.heap.size ≤ tb by have := hA.size; omega))
    clear hown5 hv5
    gi_wp2
    refine ⟨by simp, .inl ⟨_, _, rfl, run_takeDeferred hK, ?_⟩⟩
    rw [HTX.out]
    exact ⟨_, by simp [results, Tryd.results18, go_sem], rfl, hFB.grown (grownBy_putObj' W D _) (by have := hFB.size; omega) (fun r e => by cases e; have := hA.size; omega)⟩
  case stop =>
    intro D cc q W _ _ h
    exact h.elim
end Go.Proofs.YthnpoeobieninaaDoor
