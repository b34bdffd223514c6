/- MaskTells: the law's walk. -/
import Derived.Test.YtgkeifjnnpcleaaNa
import Derived.Test.YtgkeifjnnpcleaaKj
namespace Go.Proofs.Ytgkeifjnnpcleaa
open Go.RowKit

/-- The size, and the cell that is asked for, in their boxes. -/
def HeldT (w : World) (A B P Q : Int) (W : World) : Prop := Below w.heap.size w W ∧ W.cell? ⟨w.heap.size, 0, none⟩ = some (.int .i64 A) ∧ W.cell? ⟨w.heap.size, 1, none⟩ = some (.int .i64 B) ∧
  W.cell? ⟨w.heap.size + 1, 0, none⟩ = some (.int .i64 P) ∧ W.cell? ⟨w.heap.size + 1, 1, none⟩ = some (.int .i64 Q)
theorem HeldT.below {w W W' : World} {A B P Q : Int} (h : HeldT w A B P Q W) (hb : Below W.heap.size W W') : HeldT w A B P Q W' := by
  obtain ⟨h0, h1, h2, h3, h4⟩ := h
  exact ⟨bl_tr h0 hb, cell_later hb h1, cell_later hb h2, cell_later hb h3, cell_later hb h4⟩
theorem HeldT.grown {w W W' : World} {A B P Q : Int} {g : Nat} (h : HeldT w A B P Q W) (hg : W.grownBy W' (some g)) (hl : w.heap.size + 2 ≤ g) : HeldT w A B P Q W' := by
  obtain ⟨h0, h1, h2, h3, h4⟩ := h
  have n0 : some w.heap.size ≠ some g := fun e => by have := Option.some.inj e; omega
  have n1 : some (w.heap.size + 1) ≠ some g := fun e => by have := Option.some.inj e; omega
  exact ⟨h0.grown hg h0.size (fun r e => by have := Option.some.inj e; omega), hg.cell h1 n0, hg.cell h2 n0, hg.cell h3 n1, hg.cell h4 n1⟩
theorem HeldT.lt {w W : World} {A B P Q : Int} (h : HeldT w A B P Q W) : w.heap.size + 2 ≤ W.heap.size := blk_lt h.2.2.2.1

theorem bytesAt_of {W : World} {g : Nat} {bs : List Nat} (h : W.heap[g]? = some (.cells (bs.map (fun x : Nat => Value.int .u8 (x : Int))).toArray 5 (0, 0))) : BytesAt W g 0 bs := by
  intro j x hj
  simp [World.cell?, h, hj]
/-- The number of the cell before. -/
def lastN (ns : List Int) (k : Nat) : Int := if k = 0 then -1 else ns.getD (k - 1) 0
theorem lastN_succ {ns : List Int} {k : Nat} {n : Int} (h : ns[k]? = some n) : lastN ns (k + 1) = n := by
  unfold lastN
  rw [if_neg (by omega), Nat.add_sub_cancel, List.getD_eq_getElem?_getD, h]
  rfl
theorem lastN_less {bs : List Nat} {k : Nat} {n : Int} (h : (numsOf bs)[k]? = some n) (h0 : 0 ≤ n) : lastN (numsOf bs) k < n := by
  unfold lastN
  split
  · omega
  · have hk := (List.getElem?_eq_some_iff.1 h).1
    have e : (numsOf bs)[k - 1]? = some (numsOf bs)[k - 1] := List.getElem?_eq_getElem (by omega)
    rw [List.getD_eq_getElem?_getD, e]
    exact nums_rise (by omega) e h
set_option maxRecDepth 100000 in
set_option maxHeartbeats 4000000 in
theorem tells_walk (A B P Q : Int) (a : Option Addr) (ca : Nat) (ls : List ((Int × Int) × Bool)) (w : World) (ra : ActsC w a ls) :
    Calls Try.prog 6 #[.agg #[.int .i64 A, .int .i64 B], .slice a ls.length ca, .agg #[.int .i64 P, .int .i64 Q]] w fun e w' => e = .returned (.bool true) ∧ Below w.heap.size w w' := by
  have RA := Lib.hid ra
  clear ra
  go_enter Try.func6, Try.ntmps6
  go_wp2_with fail
  obtain ⟨w0, hw0⟩ : ∃ w0, (w.alloc (.cells #[.int .i64 A, .int .i64 B] 23)).alloc (.cells #[.int .i64 P, .int .i64 Q] 36) = w0 := ⟨_, rfl⟩
  have hH : HeldT w A B P Q w0 := by rw [← hw0]; exact ⟨bl_al (bl_al (bl0 w) _) _, by simp [go_sem], by simp [go_sem], by simp [go_sem], by simp [go_sem]⟩
  have H := Lib.hid hH
  rw [hw0]
  clear hw0 hH
  obtain ⟨_, s0, s1, t0, t1⟩ := H.out
  refine (small_any _ _ _).mono ?_
  rintro e w1 ⟨rfl, hb⟩
  replace H := Lib.hid (H.out.below hb)
  clear s0 s1 t0 t1
  obtain ⟨_, s0, s1, t0, t1⟩ := H.out
  clear hb
  cases hsm : smallB A B
  · skip
    go_wp2_with fail
    refine (awake_any _).mono ?_
    rintro e w99 ⟨rfl, hb⟩
    replace H := Lib.hid (H.out.below hb)
    clear hb s0 s1 t0 t1
    go_wp2
    go_ret
    exact ⟨rfl, H.out.1⟩
  · by_cases l0 : (150 : Int) < (ls.length : Int)
    · skip
      go_wp2_with fail
      refine (awake_any _).mono ?_
      rintro e w99 ⟨rfl, hb⟩
      replace H := Lib.hid (H.out.below hb)
      clear hb s0 s1 t0 t1
      go_wp2
      go_ret
      exact ⟨rfl, H.out.1⟩
    · go_wp2_with fail
      refine (may_any _ _ _).mono ?_
      rintro e w2 ⟨rfl, hb⟩
      replace H := Lib.hid (H.out.below hb)
      clear s0 s1 t0 t1
      obtain ⟨_, s0, s1, t0, t1⟩ := H.out
      clear hb
      cases hma : mayB A B
      · skip
        go_wp2_with fail
        refine (awake_any _).mono ?_
        rintro e w99 ⟨rfl, hb⟩
        replace H := Lib.hid (H.out.below hb)
        clear hb s0 s1 t0 t1
        go_wp2
        go_ret
        exact ⟨rfl, H.out.1⟩
      · have G0 := Lib.hid (good_zero hma)
        have SM := Lib.hid hsm
        have ll : (ls.length : Int) ≤ 150 := by omega
        have hnew := new_yes A B w2 hma
        have HZ0 := Lib.hid (fun P Q => memB_zero A B P Q ((A * B + 7) / 8).toNat)
        generalize List.replicate ((A * B + 7) / 8).toNat 0 = z0 at G0 hnew HZ0
        have NEW := Lib.hid hnew
        clear hnew hma hsm l0
        go_wp2_with fail
        refine NEW.out.mono ?_
        rintro e w3 ⟨b, h, rfl, mk, _, hh2, hne, hb⟩
        have hhT : w.heap.size + 2 ≤ h := Nat.le_trans H.out.lt hh2
        have MK := Lib.hid mk
        replace H := Lib.hid (H.out.below hb)
        clear s0 s1 t0 t1
        obtain ⟨_, s0, s1, t0, t1⟩ := H.out
        clear hb mk hh2 NEW
        have HM0 := Lib.hid (HZ0.out P Q)
        go_wp2
        go_loopw [9, 10] (fun v i wr => ∃ k : Nat, k ≤ ls.length ∧ i = .int .i64 k ∧ v = .bool (memB A B (actsM A B z0 (ls.take k)) P Q) ∧ MaskAt wr b h A B (actsM A B z0 (ls.take k)) ∧ HeldT w A B P Q wr) (fun _ i _ => ls.length - (intOf i).toNat)
        case atStart => exact ⟨0, Nat.zero_le _, rfl, by show _ = Value.bool (memB A B z0 P Q); rw [HM0.out], MK.out, H.out⟩
        case round =>
          clear H MK s0 s1 t0 t1
          obtain ⟨k, hk, rfl, rfl, hmk, hH⟩ := hrel
          have MK := Lib.hid hmk
          have H := Lib.hid hH
          clear hmk hH
          obtain ⟨_, s0, s1, t0, t1⟩ := H.out
          have GK := Lib.hid (actsM_good G0.out (ls.take k))
          by_cases hlt : k < ls.length
          · have hlt2 : (k : Int) < (ls.length : Int) := by omega
            have hk0 : (0 : Int) ≤ (k : Int) := by omega
            have hra := RA.out
            rcases hra with e0 | ⟨gb, go, e0, hcell⟩
            · rw [e0] at hlt; simp at hlt
            subst e0
            obtain ⟨p0, p1, p2⟩ := hcell k _ (List.getElem?_eq_getElem hlt)
            have hgl := blk_lt p0
            have q0 := cell_later H.out.1 p0
            have q1 := cell_later H.out.1 p1
            have q2 := cell_later H.out.1 p2
            have HS := Lib.hid (actsM_succ A B z0 ls k hlt)
            clear hcell p0 p1 p2
            obtain ⟨x, hx⟩ : ∃ x, ls[k].1.1 = x := ⟨_, rfl⟩
            obtain ⟨y, hy⟩ : ∃ y, ls[k].1.2 = y := ⟨_, rfl⟩
            obtain ⟨v, hv⟩ : ∃ v, ls[k].2 = v := ⟨_, rfl⟩
            rw [hx] at q0 HS
            rw [hy] at q1 HS
            rw [hv] at q2 HS
            clear hx hy hv
            have HMS := Lib.hid (memB_set GK.out x y v P Q)
            rw [← HS.out] at HMS
            have hgh : some gb ≠ some h := fun e => by have := Option.some.inj e; omega
            have HGH := Lib.hid hgh
            clear hgh
            obtain ⟨bn, hbn⟩ : ∃ bn, actsM A B z0 (ls.take (k + 1)) = bn := ⟨_, rfl⟩
            rw [hbn] at HS HMS
            have HBN := Lib.hid hbn.symm
            clear hbn
            generalize actsM A B z0 (ls.take k) = bk at *
            go_upto_region 10 with fail
            have hA := bl_dr (bl0 wr)
            replace q0 := cell_later hA q0
            replace q1 := cell_later hA q1
            replace q2 := cell_later hA q2
            replace H := Lib.hid (H.out.below hA)
            have MA := Lib.hid (MK.out.below hA)
            clear hA MK s0 s1 t0 t1
            go_region_held3 (fun w' => w'.cell? ⟨gb, go + k * 3, none⟩ = some (.int .i64 x) ∧ w'.cell? ⟨gb, go + k * 3 + 1, none⟩ = some (.int .i64 y) ∧ w'.cell? ⟨gb, go + k * 3 + 2, none⟩ = some (.bool v))
              (exact ⟨q0, q1, q2⟩)
              ((go_at_call 14; (with_reducible refine (set_all b h A B x y bk v _ MA.out GK.out hne).mono ?_); rintro e W2 ⟨rfl, hm2, hg2⟩; replace q0 := hg2.cell q0 HGH.out; replace q1 := hg2.cell q1 HGH.out; replace q2 := hg2.cell q2 HGH.out))
            rw [← HS.out] at hm2
            replace H := Lib.hid (H.out.grown hg2 hhT)
            have MK := Lib.hid hm2
            clear hm2 hg2 MA
            obtain ⟨_, s0, s1, t0, t1⟩ := H.out
            go_upto_region 11 with fail
            by_cases he : x = P ∧ y = Q
            · obtain ⟨rfl, rfl⟩ := he
              have hA := bl_dr (bl0 W2)
              replace q0 := cell_later hA q0
              replace q1 := cell_later hA q1
              replace q2 := cell_later hA q2
              replace MK := Lib.hid (MK.out.below hA)
              replace H := Lib.hid (H.out.below hA)
              clear hA s0 s1 t0 t1
              obtain ⟨_, s0, s1, t0, t1⟩ := H.out
              go_region_held3 (fun w' => w'.cell? ⟨gb, go + k * 3, none⟩ = some (.int .i64 x) ∧ w'.cell? ⟨gb, go + k * 3 + 1, none⟩ = some (.int .i64 y) ∧ w'.cell? ⟨w.heap.size, 0, none⟩ = some (.int .i64 A) ∧ w'.cell? ⟨w.heap.size, 1, none⟩ = some (.int .i64 B) ∧ w'.cell? ⟨w.heap.size + 1, 0, none⟩ = some (.int .i64 x) ∧ w'.cell? ⟨w.heap.size + 1, 1, none⟩ = some (.int .i64 y))
                (exact ⟨q0, q1, s0, s1, t0, t1⟩)
                ((go_at_call 34; (with_reducible refine (in_any A B x y _).mono ?_); rintro e W3 ⟨rfl, hb⟩; replace q0 := cell_later hb q0; replace q1 := cell_later hb q1; replace q2 := cell_later hb q2; replace s0 := cell_later hb s0; replace s1 := cell_later hb s1; replace t0 := cell_later hb t0; replace t1 := cell_later hb t1; replace MK := Lib.hid (MK.out.below hb); replace H := Lib.hid (H.out.below hb); clear hb))
              cases hi : inB A B x y
              · have HMF := Lib.hid (show memB A B bn x y = memB A B bk x y by rw [HMS.out, if_neg (fun h => by rw [hi] at h; simp at h)])
                clear hi
                go_wp2
                go_roundw
                case rel => exact ⟨k + 1, by omega, by go_num, by rw [← HBN.out, HMF.out], by rw [← HBN.out]; exact MK.out, H.out⟩
                case measure => simp [intOf]; omega
              · have HMF := Lib.hid (show memB A B bn x y = v by rw [HMS.out, if_pos ⟨by trivial, by trivial, hi⟩])
                clear hi
                go_wp2
                go_roundw
                case rel => exact ⟨k + 1, by omega, by go_num, by rw [← HBN.out, HMF.out], by rw [← HBN.out]; exact MK.out, H.out⟩
                case measure => simp [intOf]; omega
            · have HMF := Lib.hid (show memB A B bn P Q = memB A B bk P Q by rw [HMS.out, if_neg (fun h => he ⟨h.1, h.2.1⟩)])
              have hq : ∀ w : World, (binOp .eql 36 (.agg #[.int .i64 x, .int .i64 y]) (.agg #[.int .i64 P, .int .i64 Q])).run Try.prog w = .ok (.bool false) w := fun w => by
                by_cases hx : x = P
                · have hy : ¬ y = Q := fun h => he ⟨hx, h⟩
                  simp [go_sem, hx, hy]
                · simp [go_sem, hx]
              clear he
              go_quiet (fail)
              clear hq
              have hA := bl_drn W2 nq
              replace MK := Lib.hid (MK.out.below hA)
              replace H := Lib.hid (H.out.below hA)
              clear hA s0 s1 t0 t1 q0 q1 q2
              go_wp2
              go_roundw
              case rel => exact ⟨k + 1, by omega, by go_num, by rw [← HBN.out, HMF.out], by rw [← HBN.out]; exact MK.out, H.out⟩
              case measure => simp [intOf]; omega
          · have hge : (ls.length : Int) ≤ (k : Int) := by omega
            generalize actsM A B z0 (ls.take k) = bs at *
            clear HZ0 HM0 G0
            have hhb := (MK.out.lt).1
            obtain ⟨q, hq⟩ : ∃ q, memB A B bs P Q = q := ⟨_, rfl⟩
            have HQ := Lib.hid hq
            have hnq : (q != q) = false := bne_self_eq_false q
            rw [hq]
            clear hq
            go_wp2_with fail
            have hhas := has_mem b h A B P Q bs _ MK.out GK.out
            rw [HQ.out] at hhas
            refine hhas.mono ?_
            clear hhas
            rintro e w4 ⟨rfl, hb⟩
            replace MK := Lib.hid (MK.out.below hb)
            replace H := Lib.hid (H.out.below hb)
            clear s0 s1 t0 t1
            obtain ⟨_, s0, s1, t0, t1⟩ := H.out
            clear hb
            go_wp2_with fail
            refine (lcells_any b h A B bs _ MK.out GK.out.2.2.1 GK.out.small).mono ?_
            rintro e w5 ⟨az, cz, zs, hzs, rfl, rz, hb⟩
            replace MK := Lib.hid (MK.out.below hb)
            have HZS := Lib.hid (show zs = cellsM A B bs by rw [hzs, List.take_of_length_le (by have := cellsM_small GK.out SM.out; omega)])
            have RZ := Lib.hid rz
            replace H := Lib.hid (H.out.below hb)
            clear s0 s1 t0 t1
            obtain ⟨_, s0, s1, t0, t1⟩ := H.out
            clear hb hzs rz
            have lz : (zs.length : Int) ≤ 600 := by have := cellsM_small GK.out SM.out; rw [HZS.out]; omega
            have CAT := Lib.hid (fun (k : Nat) (c : Int × Int) (h : zs[k]? = some c) => cellsM_at GK.out (k := k) (c := c) (by rw [← HZS.out]; exact h))
            go_wp2
            go_loopw [12, 13, 14] (fun l f i wr => ∃ k : Nat, k ≤ zs.length ∧ i = .int .i64 k ∧ l = .int .i64 (lastN (numsOf bs) k) ∧ f = .bool (decide ((P, Q) ∈ zs.take k)) ∧ MaskAt wr b h A B bs ∧ HeldT w A B P Q wr ∧ RowC wr az zs) (fun _ _ i _ => zs.length - (intOf i).toNat)
            case atStart => exact ⟨0, Nat.zero_le _, rfl, rfl, by simp, MK.out, H.out, RZ.out⟩
            case round =>
              clear H MK RZ s0 s1 t0 t1
              obtain ⟨j, hj, rfl, rfl, rfl, hmk, hH, hrz⟩ := hrel
              have MK := Lib.hid hmk
              have H := Lib.hid hH
              have RZ := Lib.hid hrz
              clear hmk hH hrz
              obtain ⟨_, s0, s1, t0, t1⟩ := H.out
              by_cases hlj : j < zs.length
              · have hlj2 : (j : Int) < (zs.length : Int) := by omega
                have hj0 : (0 : Int) ≤ (j : Int) := by omega
                have hrz := RZ.out
                rcases hrz with e0 | ⟨gz, oz, e0, hcell⟩
                · rw [e0] at hlj; simp at hlj
                subst e0
                obtain ⟨d0, d1⟩ := hcell j _ (List.getElem?_eq_getElem hlj)
                obtain ⟨hin, hmem, hnum⟩ := CAT.out j _ (List.getElem?_eq_getElem hlj)
                have HTK := Lib.hid (List.take_succ_eq_append_getElem hlj)
                have hless := lastN_less hnum (idx_lt hin).1
                have HLS := Lib.hid (lastN_succ hnum)
                clear hcell hnum
                obtain ⟨⟨x, y⟩, hxy⟩ : ∃ c, zs[j] = c := ⟨_, rfl⟩
                rw [hxy] at d0 d1 hin hmem hless HLS HTK
                simp only at d0 d1 hin hmem hless HLS
                have HIX := Lib.hid (fun w => index_yes A B x y w hin)
                have HHS := Lib.hid (fun w hm => has_mem b h A B x y bs w hm GK.out)
                rw [hmem] at HHS
                obtain ⟨n, hn⟩ : ∃ n, y * A + x = n := ⟨_, rfl⟩
                rw [hn] at HIX hless HLS
                obtain ⟨L, hL⟩ : ∃ L, lastN (numsOf bs) j = L := ⟨_, rfl⟩
                rw [hL] at hless
                rw [hL]
                clear hxy hmem hin hn hL
                go_upto_region 21 with fail
                have hA := bl_dr (bl0 wr)
                replace d0 := cell_later hA d0
                replace d1 := cell_later hA d1
                replace MK := Lib.hid (MK.out.below hA)
                replace H := Lib.hid (H.out.below hA)
                replace RZ := Lib.hid (RZ.out.below hA)
                clear hA s0 s1 t0 t1
                obtain ⟨_, s0, s1, t0, t1⟩ := H.out
                go_region_held3 (fun w' => w'.cell? ⟨w.heap.size, 0, none⟩ = some (.int .i64 A) ∧ w'.cell? ⟨w.heap.size, 1, none⟩ = some (.int .i64 B) ∧ w'.cell? ⟨gz, oz + j * 2, none⟩ = some (.int .i64 x) ∧ w'.cell? ⟨gz, oz + j * 2 + 1, none⟩ = some (.int .i64 y))
                  (exact ⟨s0, s1, d0, d1⟩)
                  ((go_at_call 35; (with_reducible refine (HIX.out _).mono ?_); rintro e W2 ⟨rfl, hb⟩; replace d0 := cell_later hb d0; replace d1 := cell_later hb d1; replace s0 := cell_later hb s0; replace s1 := cell_later hb s1; replace t0 := cell_later hb t0; replace t1 := cell_later hb t1; replace MK := Lib.hid (MK.out.below hb); replace H := Lib.hid (H.out.below hb); replace RZ := Lib.hid (RZ.out.below hb); clear hb))
                go_wp2_with fail
                refine (HHS.out _ MK.out).mono ?_
                rintro e w6 ⟨rfl, hb⟩
                replace d0 := cell_later hb d0
                replace d1 := cell_later hb d1
                replace MK := Lib.hid (MK.out.below hb)
                replace RZ := Lib.hid (RZ.out.below hb)
                replace H := Lib.hid (H.out.below hb)
                clear s0 s1 t0 t1
                obtain ⟨_, s0, s1, t0, t1⟩ := H.out
                clear hb HHS HIX
                obtain ⟨f, hf⟩ : ∃ f, decide ((P, Q) ∈ zs.take j) = f := ⟨_, rfl⟩
                have HFN := Lib.hid (show decide ((P, Q) ∈ zs.take (j + 1)) = (f || decide (P = x ∧ Q = y)) by rw [HTK.out, ← hf, Bool.eq_iff_iff]; simp)
                rw [hf]
                clear hf HTK
                by_cases he : x = P ∧ y = Q
                · obtain ⟨rfl, rfl⟩ := he
                  have HFT := Lib.hid (show decide ((x, y) ∈ zs.take (j + 1)) = true by rw [HFN.out]; simp)
                  cases f
                  · skip
                    go_wp2
                    go_quiet (fail)
                    have hA := bl_drn w6 nq
                    replace MK := Lib.hid (MK.out.below hA)
                    replace H := Lib.hid (H.out.below hA)
                    replace RZ := Lib.hid (RZ.out.below hA)
                    clear hA s0 s1 t0 t1 d0 d1
                    try clear hq
                    go_wp2
                    go_roundw
                    case rel => exact ⟨j + 1, by omega, by go_num, by rw [HLS.out], by rw [HFT.out], MK.out, H.out, RZ.out⟩
                    case measure => simp [intOf]; omega
                  · skip
                    go_wp2
                    go_quiet (fail)
                    have hA := bl_drn w6 nq
                    replace MK := Lib.hid (MK.out.below hA)
                    replace H := Lib.hid (H.out.below hA)
                    replace RZ := Lib.hid (RZ.out.below hA)
                    clear hA s0 s1 t0 t1 d0 d1
                    try clear hq
                    go_wp2
                    go_roundw
                    case rel => exact ⟨j + 1, by omega, by go_num, by rw [HLS.out], by rw [HFT.out], MK.out, H.out, RZ.out⟩
                    case measure => simp [intOf]; omega
                · have hq : ∀ w : World, (binOp .eql 36 (.agg #[.int .i64 x, .int .i64 y]) (.agg #[.int .i64 P, .int .i64 Q])).run Try.prog w = .ok (.bool false) w := fun w => by
                    by_cases hx : x = P
                    · have hy : ¬ y = Q := fun h => he ⟨hx, h⟩
                      simp [go_sem, hx, hy]
                    · simp [go_sem, hx]
                  have HFT := Lib.hid (show decide ((P, Q) ∈ zs.take (j + 1)) = f by rw [HFN.out, decide_eq_false (fun h => he ⟨h.1.symm, h.2.symm⟩), Bool.or_false])
                  clear he
                  cases f
                  · skip
                    go_wp2
                    go_quiet (fail)
                    have hA := bl_drn w6 nq
                    replace MK := Lib.hid (MK.out.below hA)
                    replace H := Lib.hid (H.out.below hA)
                    replace RZ := Lib.hid (RZ.out.below hA)
                    clear hA s0 s1 t0 t1 d0 d1
                    try clear hq
                    go_wp2
                    go_roundw
                    case rel => exact ⟨j + 1, by omega, by go_num, by rw [HLS.out], by rw [HFT.out], MK.out, H.out, RZ.out⟩
                    case measure => simp [intOf]; omega
                  · skip
                    go_wp2
                    go_quiet (fail)
                    have hA := bl_drn w6 nq
                    replace MK := Lib.hid (MK.out.below hA)
                    replace H := Lib.hid (H.out.below hA)
                    replace RZ := Lib.hid (RZ.out.below hA)
                    clear hA s0 s1 t0 t1 d0 d1
                    try clear hq
                    go_wp2
                    go_roundw
                    case rel => exact ⟨j + 1, by omega, by go_num, by rw [HLS.out], by rw [HFT.out], MK.out, H.out, RZ.out⟩
                    case measure => simp [intOf]; omega
              · have hgj : (zs.length : Int) ≤ (j : Int) := by omega
                have HFD := Lib.hid (show decide ((P, Q) ∈ zs.take j) = q by
                  rw [List.take_of_length_le (show zs.length ≤ j by omega), ← HQ.out, HZS.out, Bool.eq_iff_iff, decide_eq_true_iff]
                  exact cellsM_mem GK.out P Q)
                rw [HFD.out]
                have GM := Lib.hid GK.out.1
                have GL := Lib.hid GK.out.2.1
                have HSP := Lib.hid ((good_spare (GK.out.1) GK.out.2.1 GK.out.2.2.1).2 GK.out)
                have HLN := Lib.hid (show (zs.length : Int) = ((ones bs : Nat) : Int) by rw [HZS.out, cellsM_len A B bs GK.out.2.2.1])
                have HCT := Lib.hid (fun w hm => count_any b h A B bs w hm GK.out.2.2.1 GK.out.small)
                rw [← HLN.out] at HCT
                clear HFD HLN CAT RZ
                have nzl : ((zs.length : Int) != (zs.length : Int)) = false := bne_self_eq_false _
                go_upto_region 26 with fail
                have hA := bl_dr (bl0 wr)
                replace MK := Lib.hid (MK.out.below hA)
                replace H := Lib.hid (H.out.below hA)
                clear hA s0 s1 t0 t1
                obtain ⟨_, s0, s1, t0, t1⟩ := H.out
                have hlv := H.out.lt
                go_region_held3 (fun w' => w'.cell? ⟨w.heap.size, 0, none⟩ = some (.int .i64 A) ∧ w'.cell? ⟨w.heap.size, 1, none⟩ = some (.int .i64 B))
                  (exact ⟨s0, s1⟩)
                  (first
                    | (go_at_call 23; (with_reducible refine (bytes_any b h A B bs _ MK.out GK.out.small).mono ?_); rintro e W7 ⟨rfl, hby, hb⟩; have BY := Lib.hid (show W7.heap[wr.heap.size]? = _ from hby); replace s0 := cell_later hb s0; replace s1 := cell_later hb s1; replace MK := Lib.hid (MK.out.below hb); replace H := Lib.hid (H.out.below hb); clear hb hby)
                    | (go_at_call 25; (with_reducible refine (of_yes A B bs _ 0 bs.length _ GM.out GL.out (bytesAt_of BY.out) HSP.out).mono ?_); rintro e W8 ⟨b2, h2, rfl, md, hb2, hh3, _, hb⟩; have MD := Lib.hid md; replace s0 := cell_later hb s0; replace s1 := cell_later hb s1; replace MK := Lib.hid (MK.out.below hb); replace H := Lib.hid (H.out.below hb); clear hb md hb2 hh3))
                clear s0 s1 t0 t1
                obtain ⟨_, s0, s1, t0, t1⟩ := H.out
                go_wp2_with fail
                refine (same_yes b2 h2 b h A B bs bs _ MD.out MK.out GK.out GK.out rfl).mono ?_
                rintro e w8 ⟨rfl, hb⟩
                replace MK := Lib.hid (MK.out.below hb)
                replace MD := Lib.hid (MD.out.below hb)
                replace H := Lib.hid (H.out.below hb)
                clear s0 s1 t0 t1
                obtain ⟨_, s0, s1, t0, t1⟩ := H.out
                clear hb
                go_wp2_with fail
                refine (same_yes b h b2 h2 A B bs bs _ MK.out MD.out GK.out GK.out rfl).mono ?_
                rintro e w9 ⟨rfl, hb⟩
                replace MK := Lib.hid (MK.out.below hb)
                replace H := Lib.hid (H.out.below hb)
                clear s0 s1 t0 t1
                obtain ⟨_, s0, s1, t0, t1⟩ := H.out
                clear hb MD
                go_wp2_with fail
                refine (HCT.out _ MK.out).mono ?_
                rintro e w' ⟨rfl, rfl⟩
                clear HCT
                go_wp2_with fail
                refine (in_any A B P Q _).mono ?_
                rintro e w10 ⟨rfl, hb⟩
                replace MK := Lib.hid (MK.out.below hb)
                replace H := Lib.hid (H.out.below hb)
                clear s0 s1 t0 t1
                obtain ⟨_, s0, s1, t0, t1⟩ := H.out
                clear hb
                cases hi : inB A B P Q
                · clear hi nzl hnq
                  go_wp2_with fail
                  refine (awake_any _).mono ?_
                  rintro e w99 ⟨rfl, hb⟩
                  replace H := Lib.hid (H.out.below hb)
                  clear hb s0 s1 t0 t1
                  go_wp2
                  go_ret
                  exact ⟨rfl, H.out.1⟩
                · have HSE := Lib.hid (setE_yes hi)
                  have HMN := Lib.hid (show memB A B (setM A B bs P Q (!q)) P Q = !q by rw [memB_set GK.out, if_pos ⟨rfl, rfl, hi⟩])
                  have GN := Lib.hid (setM_good GK.out P Q (!q))
                  have HNS := Lib.hid (show decide (setM A B bs P Q (!q) = bs) = false from decide_eq_false (fun e => by
                    have h1 := HMN.out
                    rw [e, HQ.out] at h1
                    cases q <;> simp at h1))
                  have hnq2 : ((!q) == q) = false := by cases q <;> rfl
                  have hnq3 : (q == !q) = false := by cases q <;> rfl
                  clear hi nzl
                  go_wp2_with fail
                  refine (clone_any b h A B bs _ MK.out GK.out.small).mono ?_
                  rintro e w11 ⟨b3, h3, rfl, mc, hb3, hh3, hne3, hb⟩
                  have hbl := MK.out.lt
                  have hbb : b ≠ h3 := by omega
                  have hbh : h ≠ h3 := by omega
                  have hH3 : w.heap.size + 2 ≤ h3 := Nat.le_trans H.out.lt hh3
                  have MC := Lib.hid mc
                  replace MK := Lib.hid (MK.out.below hb)
                  replace H := Lib.hid (H.out.below hb)
                  clear s0 s1 t0 t1
                  obtain ⟨_, s0, s1, t0, t1⟩ := H.out
                  clear hb mc hb3 hh3 hbl
                  go_wp2_with fail
                  have hse := set_all b3 h3 A B P Q bs (!q) _ MC.out GK.out hne3
                  rw [HSE.out] at hse
                  refine hse.mono ?_
                  clear hse
                  rintro e w12 ⟨rfl, mn, hg⟩
                  have MN := Lib.hid mn
                  replace MK := Lib.hid (MK.out.row hg hbb hbh)
                  replace H := Lib.hid (H.out.grown hg hH3)
                  clear hg mn MC s0 s1 t0 t1
                  obtain ⟨_, s0, s1, t0, t1⟩ := H.out
                  go_wp2_with fail
                  have hsa := same_any b3 h3 b h A B (setM A B bs P Q (!q)) bs _ MN.out MK.out GN.out.2.2.1 GK.out.2.2.1
                  rw [HNS.out] at hsa
                  refine hsa.mono ?_
                  clear hsa
                  rintro e w13 ⟨rfl, hb⟩
                  replace MK := Lib.hid (MK.out.below hb)
                  replace MN := Lib.hid (MN.out.below hb)
                  replace H := Lib.hid (H.out.below hb)
                  clear s0 s1 t0 t1
                  obtain ⟨_, s0, s1, t0, t1⟩ := H.out
                  clear hb
                  go_wp2_with fail
                  have hhas := has_mem b h A B P Q bs _ MK.out GK.out
                  rw [HQ.out] at hhas
                  refine hhas.mono ?_
                  clear hhas
                  rintro e w14 ⟨rfl, hb⟩
                  replace MN := Lib.hid (MN.out.below hb)
                  replace H := Lib.hid (H.out.below hb)
                  clear s0 s1 t0 t1
                  obtain ⟨_, s0, s1, t0, t1⟩ := H.out
                  clear hb
                  go_wp2_with fail
                  have hhas := has_mem b3 h3 A B P Q (setM A B bs P Q (!q)) _ MN.out GN.out
                  rw [HMN.out] at hhas
                  refine hhas.mono ?_
                  clear hhas
                  rintro e w15 ⟨rfl, hb⟩
                  replace H := Lib.hid (H.out.below hb)
                  clear s0 s1 t0 t1
                  obtain ⟨_, s0, s1, t0, t1⟩ := H.out
                  clear hb
                  go_wp2_with fail
                  refine (awake_any _).mono ?_
                  rintro e w99 ⟨rfl, hb⟩
                  replace H := Lib.hid (H.out.below hb)
                  clear hb s0 s1 t0 t1
                  go_wp2
                  go_ret
                  exact ⟨rfl, H.out.1⟩
end Go.Proofs.Ytgkeifjnnpcleaa
