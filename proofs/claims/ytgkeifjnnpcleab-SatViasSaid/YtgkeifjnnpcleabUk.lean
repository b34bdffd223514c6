/- The reference's Via: its walk. -/
import Derived.Test.YtgkeifjnnpcleabUj
namespace Go.Proofs.Ytgkeifjnnpcleab
open Go.RowKit

def rowAt (xs : List Int) (rs : List (List Int)) (i k : Nat) : List Int := if i = 0 then viaHead xs rs k else viaPart xs rs i k
theorem rowAt_zero (xs : List Int) (rs : List (List Int)) : rowAt xs rs 0 0 = [] := rfl
theorem rowAt_next (xs : List Int) (rs : List (List Int)) (i : Nat) : rowAt xs rs i (wideT rs) = rowAt xs rs (i + 1) 0 := by
  unfold rowAt
  rw [if_neg (show ¬ i + 1 = 0 by omega)]
  by_cases h : i = 0
  · subst h; rw [if_pos rfl, viaHead_end]
  · rw [if_neg h, viaPart_next]
theorem rowAt_end {xs : List Int} {rs : List (List Int)} (he : xs.length = rs.length) : rowAt xs rs xs.length 0 = viaC xs rs := by
  unfold rowAt
  by_cases h : xs.length = 0
  · rw [if_pos h]
    obtain rfl : rs = [] := List.eq_nil_of_length_eq_zero (by omega)
    rfl
  · rw [if_neg h, viaPart_end]
theorem rowAt_head (xs : List Int) (rs : List (List Int)) (k : Nat) : (rowAt xs rs 0 k).length = k := by simp [rowAt, viaHead]
theorem rowAt_snoc (xs : List Int) (rs : List (List Int)) (k : Nat) : rowAt xs rs 0 (k + 1) = rowAt xs rs 0 k ++ [viaTo xs rs k 1] := viaHead_succ xs rs k
theorem rowAt_at {xs : List Int} {rs : List (List Int)} {i k : Nat} (hi : i ≠ 0) (hk : k < wideT rs) : (rowAt xs rs i k)[k]? = some (viaTo xs rs k i) := by unfold rowAt; rw [if_neg hi]; exact viaPart_at hk
theorem rowAt_set {xs : List Int} {rs : List (List Int)} {i k : Nat} (hi : i ≠ 0) : (rowAt xs rs i k).set k (viaTo xs rs k (i + 1)) = rowAt xs rs i (k + 1) := by unfold rowAt; rw [if_neg hi, if_neg hi]; exact viaPart_set
theorem rowAt_same {xs : List Int} {rs : List (List Int)} {i k : Nat} (hi : i ≠ 0) (hk : k < wideT rs) (h : viaTo xs rs k (i + 1) = viaTo xs rs k i) : rowAt xs rs i k = rowAt xs rs i (k + 1) := by unfold rowAt; rw [if_neg hi, if_neg hi]; exact viaPart_same hk h
theorem OwnU.later {W W' : World} {B : Nat} {v : Value} {zs : List Int} (h : OwnU W B v zs) (hb : Below W.heap.size W W') : OwnU W' B v zs := own_later h hb
theorem ownU_row {w : World} {base : Nat} {v : Value} {zs : List Int} (h : OwnU w base v zs) : ∃ a cap, v = .slice a zs.length cap ∧ RowU w a zs := rowU_of_own h

theorem radd_quiet (a b : Int) (w : World) (ha : inU a) (hb : inU b) :
    Calls Try.prog 10 #[.int .u64 a, .int .u64 b] w fun e w' => e = .returned (.int .u64 (addC a b)) ∧ w' = w := (radd_any a b w ha hb).mono fun _ _ ⟨h1, h2⟩ => ⟨h1, h2.symm⟩
set_option maxRecDepth 100000 in
set_option maxHeartbeats 1600000 in
theorem rvia_any (a b : Option Addr) (c d : Nat) (xs : List Int) (ts : List (Option Addr × Nat × List Int)) (w : World) (hl : xs.length ≤ 1048576) (hwl : wideT (rowsT ts) ≤ 1048576) (he : xs.length = ts.length)
    (hr : RowU w a xs) (ht : TabU w b ts) (hu : AllU xs) (hut : AllT (rowsT ts)) :
    Calls Try.prog 21 #[.slice a xs.length c, .slice b ts.length d] w fun e w' =>
      (evenT (rowsT ts) = false ∧ e = .returned (.tuple #[.slice none 0 0, .int .i64 12]) ∧ Below w.heap.size w w') ∨
      (evenT (rowsT ts) = true ∧ ∃ z cap, e = .returned (.tuple #[.slice z (viaC xs (rowsT ts)).length cap, .int .i64 0]) ∧ RowU w' z (viaC xs (rowsT ts)) ∧ Below w.heap.size w w') := by
  obtain ⟨i0, hi, hz0, hz1, hz2⟩ := info_parts Try.infoU64
  have hl2 : (xs.length : Int) ≤ 1048576 := by omega
  have h1 : ((xs.length : Int) != (xs.length : Int)) = false := bne_self_eq_false _
  have HE := Lib.hid he
  have HT := Lib.hid ht
  have HR := Lib.hid hr
  rw [← he]
  have hA := bl_al (bl0 w) (.cells #[] 23)
  have hown0 : OwnU (w.alloc (.cells #[] 23)) w.heap.size (.slice (some ⟨w.heap.size, 0, none⟩) 0 0) (rowAt xs (rowsT ts) 0 0) := own_empty (w := w) (B := w.heap.size) 23 (Nat.le_refl _)
  have HO := Lib.hid hown0
  clear hown0 he ht hr
  go_enter Try.func21, Try.ntmps21
  go_wp2
  clear h1
  go_loopw [7] (fun i wr => ∃ k : Nat, k ≤ xs.length ∧ i = .int .i64 k ∧ (∀ j z, j < k → (rowsT ts)[j]? = some z → z.length = wideT (rowsT ts)) ∧ Below w.heap.size w wr ∧ OwnU wr w.heap.size (.slice (some ⟨w.heap.size, 0, none⟩) 0 0) (rowAt xs (rowsT ts) 0 0)) (fun i _ => xs.length - (intOf i).toNat)
  case atStart => exact ⟨0, Nat.zero_le _, rfl, fun j z h => by omega, hA, HO.out⟩
  case round =>
    clear hA HO
    obtain ⟨k, hk, rfl, hev, hB, hO⟩ := hrel
    have HV := Lib.hid hev
    have HB := Lib.hid hB
    have HO := Lib.hid hO
    clear hev hB hO
    by_cases hlt : k < xs.length
    · have hlt2 : (k : Int) < (xs.length : Int) := by omega
      have h02 : (0 : Int) < (xs.length : Int) := by omega
      have hk0 : (0 : Int) ≤ (k : Int) := by omega
      have hltt : k < ts.length := by rw [← HE.out]; exact hlt
      obtain ⟨b', o', c', d', zs, ht, rfl, q, rq⟩ := HT.out.cell hltt
      obtain ⟨b2, o2, c2, d2, zs0, ht0, hba, q0, rq0⟩ := HT.out.cell (show 0 < ts.length by omega)
      cases hba
      rw [Nat.add_zero] at q0
      have HZ := Lib.hid (rowsT_at hltt ht)
      have HW := Lib.hid (wideT_at (rowsT_at (by omega) ht0))
      replace q := cell_later HB.out q
      replace q0 := cell_later HB.out q0
      clear ht ht0
      by_cases hc : zs.length = zs0.length
      · have hc1 : ((zs.length : Int) != (zs0.length : Int)) = false := by rw [bne_eq_false_iff_eq]; omega
        have HC := Lib.hid hc
        clear hc
        go_wp2
        go_quiet (fail)
        go_wp2
        go_roundw
        case rel => exact ⟨k + 1, by omega, by go_num, fun j z hj hz => (by
            by_cases e : j = k
            · subst e; rw [HZ.out] at hz; cases hz; rw [HW.out, HC.out]
            · exact HV.out j z (by omega) hz), bl_tr HB.out (bl_drn _ _), HO.out.later (bl_drn _ _)⟩
        case measure => simp [intOf]; omega
      · have hc1 : ((zs.length : Int) != (zs0.length : Int)) = true := by rw [bne_iff_ne]; omega
        have HN := Lib.hid (evenT_no HZ.out (by rw [HW.out]; exact hc))
        clear hc
        go_wp2
        go_quiet (fail)
        go_wp2
        go_ret2
        exact .inl ⟨HN.out, rfl, bl_tr HB.out (bl_drn _ _)⟩
    · have hge : (xs.length : Int) ≤ (k : Int) := by omega
      have HEV := Lib.hid (evenT_of (rs := rowsT ts) (fun j z hj hz => HV.out j z (by rw [rowsT_len, ← HE.out] at hj; omega) hz))
      clear HV
      go_wp2
      go_loopw [6, 8] (fun v i wr => ∃ j : Nat, j ≤ xs.length ∧ i = .int .i64 j ∧ Below w.heap.size w wr ∧ OwnU wr w.heap.size v (rowAt xs (rowsT ts) j 0)) (fun _ i _ => xs.length - (intOf i).toNat)
      case atStart => exact ⟨0, Nat.zero_le _, rfl, HB.out, HO.out⟩
      case round =>
        clear HB HO
        obtain ⟨j, hj, rfl, hB, hO⟩ := hrel
        have HB := Lib.hid hB
        have HO := Lib.hid hO
        clear hB hO
        by_cases hlt : j < xs.length
        · have hlt2 : (j : Int) < (xs.length : Int) := by omega
          have hj0 : (0 : Int) ≤ (j : Int) := by omega
          have hltt : j < ts.length := by rw [← HE.out]; exact hlt
          obtain ⟨gx, ox, rfl, qx⟩ := HR.out.cell hlt
          obtain ⟨b', o', c', d', zs, ht, rfl, q, rq⟩ := HT.out.cell hltt
          have HZ := Lib.hid (rowsT_at hltt ht)
          have HZL := Lib.hid (evenT_at HEV.out HZ.out)
          have hwz : zs.length ≤ 1048576 := by rw [HZL.out]; exact hwl
          have ux := hu.at hlt
          have HQ := Lib.hid rq
          have HXL := Lib.hid hlt
          clear ht rq
          go_wp2
          go_loopw [6, 9] (fun v i wq => ∃ k : Nat, k ≤ zs.length ∧ i = .int .i64 k ∧ Below w.heap.size w wq ∧ OwnU wq w.heap.size v (rowAt xs (rowsT ts) j k)) (fun _ i _ => zs.length - (intOf i).toNat)
          case atStart => exact ⟨0, Nat.zero_le _, rfl, HB.out, HO.out⟩
          case round =>
            clear HB HO
            obtain ⟨k, hk, rfl, hB, hO⟩ := hrel
            have HB := Lib.hid hB
            have HO := Lib.hid hO
            clear hB hO
            replace q := cell_later HB.out q
            replace qx := cell_later HB.out qx
            by_cases hkz : k < zs.length
            · have hkz2 : (k : Int) < (zs.length : Int) := by omega
              have hk0 : (0 : Int) ≤ (k : Int) := by omega
              obtain ⟨gz, oz, rfl, qz⟩ := HQ.out.cell hkz
              replace qz := cell_later HB.out qz
              have HKW := Lib.hid (show k < wideT (rowsT ts) by rw [← HZL.out]; exact hkz)
              have HS := Lib.hid (viaTo_succ (p := k) hlt HZ.out)
              have HG := Lib.hid (show zs.getD k 0 = zs[k] by simp [hkz])
              have uz := (hut zs (List.mem_of_getElem? HZ.out)).at hkz
              have ua := addC_in ux uz
              generalize xs[j] = x at *
              generalize zs[k] = z at *
              by_cases h0 : j = 0
              · have h01 : ((j : Int) == 0) = true := by rw [beq_iff_eq]; omega
                have hOO := HO.out
                have HN := Lib.hid (show viaTo xs (rowsT ts) k 1 = addC x z by
                  have := HS.out
                  rw [h0, Nat.zero_add] at this
                  rw [this, HG.out, viaTo_zero, minC_inf ua])
                have HHL := Lib.hid (show (rowAt xs (rowsT ts) j k).length = k by rw [h0]; exact rowAt_head xs (rowsT ts) k)
                have HSN := Lib.hid (show rowAt xs (rowsT ts) j (k + 1) = rowAt xs (rowsT ts) j k ++ [viaTo xs (rowsT ts) k 1] by rw [h0]; exact rowAt_snoc xs (rowsT ts) k)
                have HH2 := Lib.hid (show (rowAt xs (rowsT ts) j (k + 1)).length = k + 1 by rw [h0]; exact rowAt_head xs (rowsT ts) (k + 1))
                clear h0
                unfold OwnU at hOO
                rw [HHL.out] at hOO
                go_wp2_with fail
                go_quiet ((go_at_call 10; exact Calls.quiet_of_same (radd_quiet _ _ _ (by assumption) (by assumption))))
                obtain ⟨W2, hW2⟩ : ∃ W2, wr.drewN nq = W2 := ⟨_, rfl⟩
                have hA2 : Below wr.heap.size wr W2 := by rw [← hW2]; exact bl_drn wr nq
                rw [hW2]
                clear hW2
                replace hOO := own_later hOO hA2
                replace HB := Lib.hid (bl_tr HB.out hA2)
                clear hA2 HO
                go_wp2_with (at_builtin; refine wpList_append_own _ rfl _ _ 22 rfl w.heap.size 23 i0 (.int .u64 0) 1 8 Try.underlying22 hi hz0 hz1 hz2 rfl (by decide) _ _ _ rfl (hOO.alloc _) ⟨W2.heap.size, 0, none⟩ 1 1 [.int .u64 (addC x z)] rfl rfl ?c1 ?c2 ?c3 ?c4 ?c5 ?_)
                case c1 => exact cell_one_new _ _ _
                case c2 => intro u hu; simp at hu; rcases hu with rfl; rfl
                case c3 => unfold maxLen; omega
                case c4 => omega
                case c5 => (have := HB.out.size; first | (simp; omega) | omega)
                intro v' w1 hown' hgrow _
                have hB1 : Below w.heap.size w w1 := (bl_al HB.out _).grown hgrow (by have := HB.out.size; simp; omega) (fun j hj => by have := (hOO.lt j hj).1; omega)
                rw [← cellsU_snoc, ← HN.out, ← HSN.out] at hown'
                have hO2 : OwnU w1 w.heap.size v' (rowAt xs (rowsT ts) j (k + 1)) := by unfold OwnU; rw [HH2.out]; exact hown'
                clear hgrow hOO HB hown' q qx qz
                go_wp2
                go_roundw
                case rel => exact ⟨k + 1, by omega, by go_num, hB1, hO2⟩
                case measure => simp [intOf]; omega
              · have h01 : ((j : Int) == 0) = false := by rw [beq_eq_false_iff_ne]; omega
                have HJ0 := Lib.hid h0
                clear h0
                go_wp2_with fail
                go_quiet ((go_at_call 10; exact Calls.quiet_of_same (radd_quiet _ _ _ (by assumption) (by assumption))))
                obtain ⟨W2, hW2⟩ : ∃ W2, wr.drewN nq = W2 := ⟨_, rfl⟩
                have hA2 : Below wr.heap.size wr W2 := by rw [← hW2]; exact bl_drn wr nq
                rw [hW2]
                clear hW2
                replace HB := Lib.hid (bl_tr HB.out hA2)
                obtain ⟨g, cap, rfl, hg, cg, fg, hst⟩ := (HO.out.later hA2).at (rowAt_at HJ0.out HKW.out)
                have HST := Lib.hid hst
                have hlen : (rowAt xs (rowsT ts) j k).length = zs.length := by unfold rowAt; rw [if_neg HJ0.out, viaPart_len, HZL.out]
                rw [hlen]
                have hlen2 := Lib.hid hlen
                have HO2 := Lib.hid (HO.out.later hA2)
                have HG2 := Lib.hid hg
                have k0l : (k : Int) < (zs.length : Int) := hkz2
                clear hA2 HO hst hlen
                by_cases hc : addC x z < viaTo xs (rowsT ts) k j
                · have HN := Lib.hid (show viaTo xs (rowsT ts) k (j + 1) = addC x z by rw [HS.out, HG.out]; unfold minC; rw [if_pos hc])
                  go_wp2
                  go_roundw
                  case rel => exact ⟨k + 1, by omega, by go_num, bl_st HB.out HG2.out _, (by rw [← rowAt_set HJ0.out, HN.out]; have := HST.out (addC x z); rw [hlen2.out] at this; exact this)⟩
                  case measure => simp [intOf]; omega
                · have HN := Lib.hid (show viaTo xs (rowsT ts) k (j + 1) = viaTo xs (rowsT ts) k j by rw [HS.out, HG.out]; unfold minC; rw [if_neg hc])
                  go_wp2
                  go_roundw
                  case rel => exact ⟨k + 1, by omega, by go_num, HB.out, (by rw [← rowAt_same HJ0.out HKW.out HN.out]; have := HO2.out; rw [hlen2.out] at this; exact this)⟩
                  case measure => simp [intOf]; omega
            · have hge : (zs.length : Int) ≤ (k : Int) := by omega
              have HKE := Lib.hid (show k = wideT (rowsT ts) by rw [← HZL.out]; omega)
              go_wp2
              go_roundw
              case rel => exact ⟨j + 1, by omega, by go_num, HB.out, by rw [← rowAt_next, ← HKE.out]; exact HO.out⟩
              case measure => simp [intOf]; omega
        · have HF := Lib.hid (show xs.length = j by omega)
          have hge : (xs.length : Int) ≤ (j : Int) := by omega
          go_wp2
          go_ret2
          have hO := HO.out
          rw [← HF.out, rowAt_end (by rw [rowsT_len]; exact HE.out)] at hO
          obtain ⟨z, cap, rfl, hrow⟩ := ownU_row hO
          exact .inr ⟨HEV.out, z, cap, rfl, hrow, HB.out⟩
end Go.Proofs.Ytgkeifjnnpcleab
