/- Gates: the reference's gates of a border. -/
import Derived.Test.YtbdfjdipjacamaaDoorQc
import Derived.Test.YtbdfjdipjacamaaDoorOs
import Derived.Deep.CutRange
namespace Go.Proofs.YtbdfjdipjacamaaDoor
open Go.RowKit

theorem Tryd.infoRG : (Tryd.prog.info? 98).map (fun i => (i.zero, i.size, i.bytes)) = some (some (.agg #[.int .i64 0, .int .i64 0, .int .i64 0, .int .i64 0]), 4, 32) := by kernel_rfl
theorem rowR_of_own {w : World} {base : Nat} {a : Option Addr} {cap : Nat} {zs : List (IC × IC)} (h : w.ownsRow base 98 4 (.slice a zs.length cap) zs.length (flatPP zs)) : RowPP w a zs := by
  have hown := h
  rcases h.2 with ⟨e, h0⟩ | ⟨g, cap, cur, e, hb, hg, _⟩
  · exact .inl (List.eq_nil_of_length_eq_zero h0)
  · cases e
    refine .inr ⟨g, 0, rfl, fun i z hz => ?_⟩
    obtain ⟨⟨e0, e1⟩, e2, e3⟩ := flatPP_at zs i z hz
    have a0 := hown.cells (g := g) rfl _ _ e0
    have a1 := hown.cells (g := g) rfl _ _ e1
    have a2 := hown.cells (g := g) rfl _ _ e2
    have a3 := hown.cells (g := g) rfl _ _ e3
    rw [addr_add, Nat.zero_add] at a0 a1 a2 a3
    simp only [Nat.zero_add]
    exact ⟨⟨a0, a1⟩, a2, a3⟩
theorem aheadN_step {o : Nat → Bool} {i c : Nat} (h : aheadN o i = c + aheadN o (i - c)) (hc : c < i) : (o (i - c - 1) = true → aheadN o i = (c + 1) + aheadN o (i - (c + 1))) ∧ (o (i - c - 1) = false → aheadN o i = c) := by
  obtain ⟨j, hj⟩ : ∃ j, i - c = j + 1 := ⟨i - c - 1, by omega⟩
  rw [hj] at h
  rw [show i - c - 1 = j by omega, show i - (c + 1) = j by omega]
  conv at h => rhs; unfold aheadN
  constructor <;> intro h1
  · rw [if_pos h1] at h; omega
  · rw [if_neg (by rw [h1]; decide)] at h; omega
theorem aheadN_end {o : Nat → Bool} {i c : Nat} (h : aheadN o i = c + aheadN o (i - c)) (hc : c = i) : aheadN o i = c := by
  subst hc
  rw [Nat.sub_self] at h
  exact h
theorem runN_step {o : Nat → Bool} {s m c : Nat} (h : runN o m s = c + runN o (m - c) (s + c)) (hc : c < m) : (o (s + c) = true → runN o m s = (c + 1) + runN o (m - (c + 1)) (s + (c + 1))) ∧ (o (s + c) = false → runN o m s = c) := by
  obtain ⟨j, hj⟩ : ∃ j, m - c = j + 1 := ⟨m - c - 1, by omega⟩
  rw [hj] at h
  rw [show m - (c + 1) = j by omega, show s + (c + 1) = s + c + 1 by omega]
  conv at h => rhs; unfold runN
  constructor <;> intro h1
  · rw [if_pos h1] at h; omega
  · rw [if_neg (by rw [h1]; decide)] at h; omega
theorem runN_end {o : Nat → Bool} {s m c : Nat} (h : runN o m s = c + runN o (m - c) (s + c)) (hc : c = m) : runN o m s = c := by
  subst hc
  rw [Nat.sub_self] at h
  exact h

set_option maxRecDepth 100000 in
set_option maxHeartbeats 8000000 in
theorem rbtw_any (A B : Int) (a : Option Addr) (cap : Nat) (zs : List Int) (b : Option Addr) (cap2 : Nat) (l : List (IC × IC)) (w : World) (hr : RowH w a zs) (hin : AllH zs) (hn : (zs.length : Int) = A * B) (hrow : RowPP w b l) (hl : l.length ≤ 1048576) (hon : ∀ p ∈ l, onB A B p.1 = true ∧ onB A B p.2 = true) :
    Calls Tryd.prog 66 #[.agg #[.int .i64 A, .int .i64 B, .slice a zs.length cap], .slice b l.length cap2] w (GatR (gatesL (opnF A zs) l) w) := by
  obtain ⟨i0, hi0, hz0, hz1, hz2⟩ := info_parts Tryd.infoRG
  have HR := Lib.hid hr
  have HROW := Lib.hid hrow
  have HOP := Lib.hid (fun (k : Nat) (hk : k < l.length) w hr => ropen_any A B a cap zs l[k] w hr hin (hon _ (List.getElem_mem hk)).1 (hon _ (List.getElem_mem hk)).2 hn)
  have HOA := Lib.hid (fun (k : Nat) (hk : k < l.length) => opnAt_lt (op := opnF A zs) hk)
  have HGS := Lib.hid (fun (k : Nat) (hk : k < l.length) => gatesTo_succ (op := opnF A zs) hk)
  have HGL := Lib.hid (fun (k : Nat) => gatesTo_le (opnF A zs) l k)
  obtain ⟨o, hoE⟩ : ∃ o, opnAt (opnF A zs) l = o := ⟨_, rfl⟩
  obtain ⟨G, hG⟩ : ∃ G, gatesTo (opnF A zs) l = G := ⟨_, rfl⟩
  rw [hoE, hG] at HGS
  rw [hoE] at HOA
  rw [hG] at HGL
  have hGZ : G 0 = [] := by rw [← hG]; rfl
  have HGE := Lib.hid (show gatesL (opnF A zs) l = G l.length by rw [← hG]; rfl)
  rw [HGE.out]
  clear hr hrow hon hn hin hoE hG
  have hA := bl0 w
  go_enter Tryd.func66, Tryd.ntmps66
  go_wp2_with fail
  go_loopw [5, 6, 7, 8, 9, 10] (fun ov iv _ _ _ _ wr => ∃ i : Nat, i ≤ l.length ∧ iv = .int .i64 i ∧ wr.ownsRow (w.heap.size + 1) 98 4 ov (G i).length (flatPP (G i)) ∧ Below w.heap.size w wr ∧ wr.cell? ⟨w.heap.size, 0, none⟩ = some (.int .i64 A) ∧ wr.cell? ⟨w.heap.size, 1, none⟩ = some (.int .i64 B) ∧ wr.cell? ⟨w.heap.size, 2, none⟩ = some (.slice a zs.length cap)) (fun _ iv _ _ _ _ _ => l.length - (intOf iv).toNat)
  case atStart =>
    have ho := own_empty4 (w.alloc (.cells #[.int .i64 A, .int .i64 B, .slice a zs.length cap] 26)) 98 (w.heap.size + 1) (by simp)
    rw [World.size_alloc] at ho
    exact ⟨0, Nat.zero_le _, rfl, by rw [hGZ]; exact ho, bl_al (bl_al hA _) _, by simp [go_sem], by simp [go_sem], by simp [go_sem]⟩
  case round =>
    clear hA
    obtain ⟨i, hi, rfl, hown, hA, f0, f1, f2⟩ := hrel
    have hi0' : (0 : Int) ≤ (i : Int) := by omega
    have zf := blk_lt f0
    by_cases hlt : i < l.length
    case neg =>
      obtain rfl : i = l.length := by omega
      have hge : ¬ (l.length : Int) < (l.length : Int) := by omega
      obtain ⟨va, vc, rfl, hcp⟩ := own_shape hown
      have hrw := rowR_of_own hown
      have HRR := Lib.hid (show ∀ e, e = Ending.returned (.slice va (G l.length).length vc) → GatR (G l.length) w e wr from fun e he => ⟨va, vc, he, hcp, hrw, hA⟩)
      clear hown hA hrw
      go_wp2
      go_ret
      exact HRR.out _ rfl
    case pos =>
      have hlt2 : (i : Int) < (l.length : Int) := by omega
      obtain ⟨gb, go, rfl, ⟨q0, q1⟩, q2, q3⟩ := (HROW.out.below hA).cell (show i < l.length by omega)
      have HC := HOP.out i (by omega)
      have ho := HOA.out i (by omega)
      obtain ⟨p, hp⟩ : ∃ p, l[i] = p := ⟨_, rfl⟩
      rw [hp] at q0 q1 q2 q3 HC ho
      have HPP := Lib.hid hp
      clear hp
      obtain ⟨t, ht⟩ : ∃ t, opnF A zs p = t := ⟨_, rfl⟩
      rw [ht] at HC ho
      clear ht
      replace HC := Lib.hid HC
      have zq := blk_lt q0
      have hrz := HR.out.below hA
      have HS := Lib.hid (show ∀ W9, Below wr.heap.size wr W9 → W9.cell? ⟨w.heap.size, 0, none⟩ = some (.int .i64 A) ∧ W9.cell? ⟨w.heap.size, 1, none⟩ = some (.int .i64 B) ∧ W9.cell? ⟨w.heap.size, 2, none⟩ = some (.slice a zs.length cap) ∧ (W9.cell? ⟨gb, go + i * 4, none⟩ = some (.int .i64 p.1.1) ∧ W9.cell? ⟨gb, go + i * 4 + 1, none⟩ = some (.int .i64 p.1.2)) ∧ W9.cell? ⟨gb, go + i * 4 + 2, none⟩ = some (.int .i64 p.2.1) ∧ W9.cell? ⟨gb, go + i * 4 + 3, none⟩ = some (.int .i64 p.2.2) from fun W9 h => ⟨cell_later h f0, cell_later h f1, cell_later h f2, ⟨cell_later h q0, cell_later h q1⟩, cell_later h q2, cell_later h q3⟩)
      have hk1 := bl0 wr
      have HOWN := Lib.hid hown
      clear q0 q1 q2 q3 zq hown
      go_upto_region 5 with fail
      go_region_held3 (fun W9 => W9.cell? ⟨w.heap.size, 0, none⟩ = some (.int .i64 A) ∧ W9.cell? ⟨w.heap.size, 1, none⟩ = some (.int .i64 B) ∧ W9.cell? ⟨w.heap.size, 2, none⟩ = some (.slice a zs.length cap) ∧ (W9.cell? ⟨gb, go + i * 4, none⟩ = some (.int .i64 p.1.1) ∧ W9.cell? ⟨gb, go + i * 4 + 1, none⟩ = some (.int .i64 p.1.2)) ∧ W9.cell? ⟨gb, go + i * 4 + 2, none⟩ = some (.int .i64 p.2.1) ∧ W9.cell? ⟨gb, go + i * 4 + 3, none⟩ = some (.int .i64 p.2.2))
        (first | exact HS.out _ hk1 | exact HS.out _ (bl_dr hk1))
        ((go_at_call 112; (with_reducible refine (HC.out _ (hrz.below (bl_dr hk1))).mono ?_); rintro e wz ⟨rfl, hb⟩; replace hk1 := bl_tr (bl_dr hk1) hb; clear hb))
      have hown := own_later HOWN.out hk1
      replace hA := bl_tr hA hk1
      replace f0 := cell_later hk1 f0; replace f1 := cell_later hk1 f1; replace f2 := cell_later hk1 f2
      replace zf := blk_lt f0
      have hgs := HGS.out i hlt
      rw [HPP.out] at hgs
      clear hrz HC HS HOWN hk1
      cases t
      · rw [if_neg (show ¬ isG o l.length i = true by unfold isG; rw [ho]; simp), List.append_nil] at hgs
        rw [← hgs] at hown
        go_wp2
        go_roundw
        case rel => exact ⟨i + 1, by omega, by go_num, hown, hA, f0, f1, f2⟩
        case measure => simp [intOf]; omega
      · have HGG := Lib.hid hgs
        have HOI := Lib.hid ho
        have HOWN := Lib.hid hown
        have HA := Lib.hid hA
        have F0 := Lib.hid f0; have F1 := Lib.hid f1; have F2 := Lib.hid f2
        obtain ⟨w4, hw4⟩ : ∃ w4, wz = w4 := ⟨_, rfl⟩
        subst hw4
        clear hgs ho hown
        have hA4 := hA
        go_wp2_with fail
        clear hA f0 f1 f2 zf
        go_loopw [7, 8] (fun av kv wr => ∃ c : Nat, c ≤ i ∧ av = .int .i64 c ∧ kv = .int .i64 ((i : Int) - 1 - c) ∧ aheadN o i = c + aheadN o (i - c) ∧ Below wz.heap.size wz wr) (fun av _ _ => i - (intOf av).toNat)
        case atStart => exact ⟨0, Nat.zero_le _, rfl, by simp, by simp, bl0 _⟩
        case round =>
          obtain ⟨c, hc, rfl, rfl, hah, hB⟩ := hrel
          have hA := bl_tr HA.out hB
          have f0 := cell_later hB F0.out; have f1 := cell_later hB F1.out; have f2 := cell_later hB F2.out
          have zf := blk_lt f0
          have HAH := Lib.hid hah
          clear hah
          have hc0 : (0 : Int) ≤ (c : Int) := by omega
          have hA4 := hA
          clear hA4
          obtain ⟨kz, hkz⟩ : ∃ kz : Int, (i : Int) - 1 - (c : Int) = kz := ⟨_, rfl⟩
          rw [hkz]
          have hkz0 : -1 ≤ kz := by omega
          have hkz1 : kz ≤ 1048576 := by omega
          have HKZ := Lib.hid hkz
          clear hkz
          go_upto_region 8 with fail
          go_cut [36] from 27 to 35 (fun s wx => s = .bool (decide (c < i) && o (i - c - 1)) ∧ Below wr.heap.size wr wx)
          case first =>
            by_cases hci : c < i
            · obtain ⟨k, hk⟩ : ∃ k : Nat, i - c - 1 = k := ⟨_, rfl⟩
              obtain rfl : kz = (k : Int) := by have := HKZ.out; omega
              have hk0 : (0 : Int) ≤ (k : Int) := by omega
              have hkl : (k : Int) < (l.length : Int) := by omega
              obtain ⟨gb'', go'', hh, ⟨q0, q1⟩, q2, q3⟩ := (HROW.out.below hA).cell (show k < l.length by omega)
              cases hh
              have HC := HOP.out k (by omega)
              have ho := HOA.out k (by omega)
              obtain ⟨p, hp⟩ : ∃ p, l[k] = p := ⟨_, rfl⟩
              rw [hp] at q0 q1 q2 q3 HC ho
              have HPP := Lib.hid hp
              clear hp
              obtain ⟨t, ht⟩ : ∃ t, opnF A zs p = t := ⟨_, rfl⟩
              rw [ht] at HC ho
              clear ht
              replace HC := Lib.hid HC
              have zq := blk_lt q0
              have hrz := HR.out.below hA
              have HS := Lib.hid (show ∀ W9, Below wr.heap.size wr W9 → W9.cell? ⟨w.heap.size, 0, none⟩ = some (.int .i64 A) ∧ W9.cell? ⟨w.heap.size, 1, none⟩ = some (.int .i64 B) ∧ W9.cell? ⟨w.heap.size, 2, none⟩ = some (.slice a zs.length cap) ∧ (W9.cell? ⟨gb, go + k * 4, none⟩ = some (.int .i64 p.1.1) ∧ W9.cell? ⟨gb, go + k * 4 + 1, none⟩ = some (.int .i64 p.1.2)) ∧ W9.cell? ⟨gb, go + k * 4 + 2, none⟩ = some (.int .i64 p.2.1) ∧ W9.cell? ⟨gb, go + k * 4 + 3, none⟩ = some (.int .i64 p.2.2) from fun W9 h => ⟨cell_later h f0, cell_later h f1, cell_later h f2, ⟨cell_later h q0, cell_later h q1⟩, cell_later h q2, cell_later h q3⟩)
              have hk1 := bl0 wr
              have HSV := Lib.hid (show (decide (c < i) && o (i - c - 1)) = t by rw [hk, decide_eq_true hci, Bool.true_and]; exact ho)
              clear q0 q1 q2 q3 zq hk hci
              go_region_held3 (fun W9 => W9.cell? ⟨w.heap.size, 0, none⟩ = some (.int .i64 A) ∧ W9.cell? ⟨w.heap.size, 1, none⟩ = some (.int .i64 B) ∧ W9.cell? ⟨w.heap.size, 2, none⟩ = some (.slice a zs.length cap) ∧ (W9.cell? ⟨gb, go + k * 4, none⟩ = some (.int .i64 p.1.1) ∧ W9.cell? ⟨gb, go + k * 4 + 1, none⟩ = some (.int .i64 p.1.2)) ∧ W9.cell? ⟨gb, go + k * 4 + 2, none⟩ = some (.int .i64 p.2.1) ∧ W9.cell? ⟨gb, go + k * 4 + 3, none⟩ = some (.int .i64 p.2.2))
                (first | exact HS.out _ hk1 | exact HS.out _ (bl_dr hk1))
                ((go_at_call 112; (with_reducible refine (HC.out _ (hrz.below (bl_dr hk1))).mono ?_); rintro e wz ⟨rfl, hb⟩; replace hk1 := bl_tr (bl_dr hk1) hb; clear hb))
              go_wp2
              go_meet
              exact ⟨by rw [HSV.out], hk1⟩
            · obtain rfl : kz = -1 := by have := HKZ.out; omega
              have HSV := Lib.hid (show (decide (c < i) && o (i - c - 1)) = false by rw [decide_eq_false hci, Bool.false_and])
              first | go_quiet (fail) | go_region_with (fail)
              go_wp2
              go_meet
              exact ⟨by rw [HSV.out], bl_drn _ _⟩
          case rest =>
          obtain ⟨rfl, hk1⟩ := hcut
          obtain ⟨t, ht⟩ : ∃ t, (decide (c < i) && o (i - c - 1)) = t := ⟨_, rfl⟩
          rw [ht]
          have HT := Lib.hid ht
          have hB2 := bl_tr hB hk1
          clear ht hA f0 f1 f2 zf hk1 hB
          cases t
          case true =>
            go_wp2
            go_roundw
            case rel =>
              have hh := HT.out
              rw [Bool.and_eq_true, decide_eq_true_eq] at hh
              exact ⟨c + 1, by omega, by go_num, by (have := HKZ.out; go_num), (aheadN_step HAH.out hh.1).1 hh.2, hB2⟩
            case measure =>
              have hh := HT.out
              rw [Bool.and_eq_true, decide_eq_true_eq] at hh
              simp [intOf]; omega
          case false =>
            have hac : aheadN o i = c := by
              have hh := HT.out
              rcases Nat.lt_or_ge c i with hci | hci
              · rw [decide_eq_true hci, Bool.true_and] at hh
                exact (aheadN_step HAH.out hci).2 hh
              · exact aheadN_end HAH.out (by omega)
            have HAC := Lib.hid hac
            have HB2 := Lib.hid hB2
            clear hac
            have w5h := hB2
            obtain ⟨w5, hw5⟩ : ∃ w5, wc = w5 := ⟨_, rfl⟩
            subst hw5
            clear HAH HT
            go_wp2_with fail
            clear w5h hB2
            go_loopw [9, 10] (fun bv kv wr => ∃ d : Nat, d ≤ l.length - (i + 1) ∧ bv = .int .i64 d ∧ kv = .int .i64 ((i : Int) + 1 + d) ∧ runN o (l.length - (i + 1)) (i + 1) = d + runN o (l.length - (i + 1) - d) (i + 1 + d) ∧ Below wc.heap.size wc wr) (fun bv _ _ => l.length - (intOf bv).toNat)
            case atStart => exact ⟨0, Nat.zero_le _, rfl, by simp, by simp, bl0 _⟩
            case round =>
              obtain ⟨d, hd, rfl, rfl, hah, hB⟩ := hrel
              have hA := bl_tr (bl_tr HA.out HB2.out) hB
              have hB0 := bl_tr HB2.out hB
              have f0 := cell_later hB0 F0.out; have f1 := cell_later hB0 F1.out; have f2 := cell_later hB0 F2.out
              have zf := blk_lt f0
              have HAH := Lib.hid hah
              clear hah hB0
              have hd0 : (0 : Int) ≤ (d : Int) := by omega
              obtain ⟨k, hk⟩ : ∃ k : Nat, i + 1 + d = k := ⟨_, rfl⟩
              have hki : (i : Int) + 1 + (d : Int) = (k : Int) := by omega
              have hk0 : (0 : Int) ≤ (k : Int) := by omega
              rw [hki]
              have HKI := Lib.hid hki
              have HK := Lib.hid hk
              clear hki
              go_upto_region 13 with fail
              go_cut [54] from 43 to 53 (fun s wx => s = .bool (decide (k < l.length) && o k) ∧ Below wr.heap.size wr wx)
              case first =>
                by_cases hkl : k < l.length
                · have hkl2 : (k : Int) < (l.length : Int) := by omega
                  have hdt : decide ((k : Int) < (l.length : Int)) = true := decide_eq_true hkl2
                  obtain ⟨gb'', go'', hh, ⟨q0, q1⟩, q2, q3⟩ := (HROW.out.below hA).cell (show k < l.length by omega)
                  cases hh
                  have HC := HOP.out k (by omega)
                  have ho := HOA.out k (by omega)
                  obtain ⟨p, hp⟩ : ∃ p, l[k] = p := ⟨_, rfl⟩
                  rw [hp] at q0 q1 q2 q3 HC ho
                  have HPP := Lib.hid hp
                  clear hp
                  obtain ⟨t, ht⟩ : ∃ t, opnF A zs p = t := ⟨_, rfl⟩
                  rw [ht] at HC ho
                  clear ht
                  replace HC := Lib.hid HC
                  have zq := blk_lt q0
                  have hrz := HR.out.below hA
                  have HS := Lib.hid (show ∀ W9, Below wr.heap.size wr W9 → W9.cell? ⟨w.heap.size, 0, none⟩ = some (.int .i64 A) ∧ W9.cell? ⟨w.heap.size, 1, none⟩ = some (.int .i64 B) ∧ W9.cell? ⟨w.heap.size, 2, none⟩ = some (.slice a zs.length cap) ∧ (W9.cell? ⟨gb, go + k * 4, none⟩ = some (.int .i64 p.1.1) ∧ W9.cell? ⟨gb, go + k * 4 + 1, none⟩ = some (.int .i64 p.1.2)) ∧ W9.cell? ⟨gb, go + k * 4 + 2, none⟩ = some (.int .i64 p.2.1) ∧ W9.cell? ⟨gb, go + k * 4 + 3, none⟩ = some (.int .i64 p.2.2) from fun W9 h => ⟨cell_later h f0, cell_later h f1, cell_later h f2, ⟨cell_later h q0, cell_later h q1⟩, cell_later h q2, cell_later h q3⟩)
                  have hk1 := bl0 wr
                  have HSV := Lib.hid (show (decide (k < l.length) && o k) = t by rw [decide_eq_true hkl, Bool.true_and]; exact ho)
                  clear q0 q1 q2 q3 zq hk
                  go_region_held3 (fun W9 => W9.cell? ⟨w.heap.size, 0, none⟩ = some (.int .i64 A) ∧ W9.cell? ⟨w.heap.size, 1, none⟩ = some (.int .i64 B) ∧ W9.cell? ⟨w.heap.size, 2, none⟩ = some (.slice a zs.length cap) ∧ (W9.cell? ⟨gb, go + k * 4, none⟩ = some (.int .i64 p.1.1) ∧ W9.cell? ⟨gb, go + k * 4 + 1, none⟩ = some (.int .i64 p.1.2)) ∧ W9.cell? ⟨gb, go + k * 4 + 2, none⟩ = some (.int .i64 p.2.1) ∧ W9.cell? ⟨gb, go + k * 4 + 3, none⟩ = some (.int .i64 p.2.2))
                    (first | exact HS.out _ hk1 | exact HS.out _ (bl_dr hk1))
                    ((go_at_call 112; (with_reducible refine (HC.out _ (hrz.below (bl_dr hk1))).mono ?_); rintro e wz ⟨rfl, hb⟩; replace hk1 := bl_tr (bl_dr hk1) hb; clear hb))
                  go_wp2
                  go_meet
                  exact ⟨by rw [HSV.out], hk1⟩
                · have hdt : decide ((k : Int) < (l.length : Int)) = false := decide_eq_false (by omega)
                  have HSV := Lib.hid (show (decide (k < l.length) && o k) = false by rw [decide_eq_false hkl, Bool.false_and])
                  first | go_quiet (fail) | go_region_with (fail)
                  go_wp2
                  go_meet
                  exact ⟨by rw [HSV.out], bl_drn _ _⟩
              case rest =>
              obtain ⟨rfl, hk1⟩ := hcut
              obtain ⟨t, ht⟩ : ∃ t, (decide (k < l.length) && o k) = t := ⟨_, rfl⟩
              rw [ht]
              have HT := Lib.hid ht
              have hB2 := bl_tr hB hk1
              clear ht hA f0 f1 f2 zf hk1 hB
              cases t
              case true =>
                go_wp2
                go_roundw
                case rel =>
                  have hh := HT.out
                  rw [Bool.and_eq_true, decide_eq_true_eq, ← HK.out] at hh
                  exact ⟨d + 1, by omega, by go_num, by (have := HKI.out; go_num), (runN_step HAH.out (by omega)).1 hh.2, hB2⟩
                case measure =>
                  have hh := HT.out
                  rw [Bool.and_eq_true, decide_eq_true_eq] at hh
                  have := HK.out
                  simp [intOf]; omega
              case false =>
                have hrc : runN o (l.length - (i + 1)) (i + 1) = d := by
                  have hh := HT.out
                  have hkk := HK.out
                  rcases Nat.lt_or_ge k l.length with hci | hci
                  · rw [decide_eq_true hci, Bool.true_and, ← hkk] at hh
                    exact (runN_step HAH.out (by omega)).2 hh
                  · exact runN_end HAH.out (by omega)
                have hB3 := bl_tr HB2.out hB2
                have hA := bl_tr HA.out hB3
                have hown := own_later HOWN.out hB3
                have f0 := cell_later hB3 F0.out; have f1 := cell_later hB3 F1.out; have f2 := cell_later hB3 F2.out
                have zf := blk_lt f0
                obtain ⟨gb', go', hh, ⟨q0, q1⟩, q2, q3⟩ := (HROW.out.below hA).cell (show i < l.length by omega)
                cases hh
                rw [HPP.out] at q0 q1 q2 q3
                have zq := blk_lt q0
                have hiG : isG o l.length i = decide (c = (c + d) / 2) := by unfold isG; rw [HOI.out, HAC.out, hrc, Bool.true_and]
                have hgs := HGG.out
                rw [hiG] at hgs
                obtain ⟨q, hq⟩ : ∃ q, (c + d) / 2 = q := ⟨_, rfl⟩
                rw [hq] at hgs
                have hd2 : Int.tdiv ((c : Int) + (d : Int)) 2 = (q : Int) := by
                  rw [Int.tdiv_eq_ediv_of_nonneg (by omega)]
                  omega
                have e1 : IntKind.i64.wrap ((c : Int) + (d : Int)) = (c : Int) + (d : Int) := IntWalk.i64_in _ (by omega)
                have e2 : IntKind.i64.wrap (q : Int) = (q : Int) := IntWalk.i64_in _ (by omega)
                obtain ⟨v', c', rfl, hcp⟩ := own_shape hown
                have hgle := HGL.out i
                clear hrc hiG hq hB3 hB2
                by_cases hcq : c = q
                · have hcq2 : ((c : Int) == (q : Int)) = true := by rw [beq_iff_eq]; omega
                  rw [if_pos (decide_eq_true hcq)] at hgs
                  have HGS2 := Lib.hid hgs
                  clear hgs hcq
                  go_upto_region 17 with fail
                  have hB := bl_dr (bl0 wc)
                  have hS := And.intro (And.intro (cell_later hB q0) (cell_later hB q1)) (And.intro (cell_later hB q2) (cell_later hB q3))
                  refine (wpIn_wide (n := 11)).1 ?_
                  refine ordS_begin (S := (fun W9 => (W9.cell? ⟨gb, go + i * 4, none⟩ = some (.int .i64 p.1.1) ∧ W9.cell? ⟨gb, go + i * 4 + 1, none⟩ = some (.int .i64 p.1.2)) ∧ W9.cell? ⟨gb, go + i * 4 + 2, none⟩ = some (.int .i64 p.2.1) ∧ W9.cell? ⟨gb, go + i * 4 + 3, none⟩ = some (.int .i64 p.2.2))) (by kernel_rfl) hS (fun hH => ?_)
                  first
                    | (refine' ordS_take (i := 0) (oi := { dst := some 65, op := Op.move (Operand.tmp 5), type := 58, pos := _, after := #[], guard := none }) (v := _) rfl (by kernel_rfl) (by kernel_rfl) (by kernel_rfl) (by kernel_rfl) (fun _ _ _ h => h) (by assumption) (Or.inl ⟨by rfl, ?hy211⟩) (fun _ => rfl) ?rest211
                       case hy211 => (intro w hSw; (try dsimp only at hSw); go_simp; try with_reducible rfl))
                    | (refine ordS_take (i := 0) (oi := { dst := some 65, op := Op.move (Operand.tmp 5), type := 58, pos := _, after := #[], guard := none }) (v := undef) rfl (by kernel_rfl) (by kernel_rfl) (by kernel_rfl) (by kernel_rfl) (fun _ _ _ h => h) (by assumption) (Or.inr ⟨by rfl, rfl⟩) (fun _ => rfl) ?_)
                  try simp only [Act.put, List.setIfInBounds_toArray, List.set_cons_zero, List.set_cons_succ]
                  first
                    | (refine' ordS_take (i := 1) (oi := { dst := some 66, op := Op.move (Operand.tmp 1), type := 103, pos := _, after := #[], guard := none }) (v := _) rfl (by kernel_rfl) (by kernel_rfl) (by kernel_rfl) (by kernel_rfl) (fun _ _ _ h => h) (by assumption) (Or.inl ⟨by rfl, ?hy212⟩) (fun _ => rfl) ?rest212
                       case hy212 => (intro w hSw; (try dsimp only at hSw); go_simp; try with_reducible rfl))
                    | (refine ordS_take (i := 1) (oi := { dst := some 66, op := Op.move (Operand.tmp 1), type := 103, pos := _, after := #[], guard := none }) (v := undef) rfl (by kernel_rfl) (by kernel_rfl) (by kernel_rfl) (by kernel_rfl) (fun _ _ _ h => h) (by assumption) (Or.inr ⟨by rfl, rfl⟩) (fun _ => rfl) ?_)
                  try simp only [Act.put, List.setIfInBounds_toArray, List.set_cons_zero, List.set_cons_succ]
                  first
                    | (refine' ordS_take (i := 2) (oi := { dst := some 67, op := Op.move (Operand.tmp 6), type := 3, pos := _, after := #[], guard := none }) (v := _) rfl (by kernel_rfl) (by kernel_rfl) (by kernel_rfl) (by kernel_rfl) (fun _ _ _ h => h) (by assumption) (Or.inl ⟨by rfl, ?hy213⟩) (fun _ => rfl) ?rest213
                       case hy213 => (intro w hSw; (try dsimp only at hSw); go_simp; try with_reducible rfl))
                    | (refine ordS_take (i := 2) (oi := { dst := some 67, op := Op.move (Operand.tmp 6), type := 3, pos := _, after := #[], guard := none }) (v := undef) rfl (by kernel_rfl) (by kernel_rfl) (by kernel_rfl) (by kernel_rfl) (fun _ _ _ h => h) (by assumption) (Or.inr ⟨by rfl, rfl⟩) (fun _ => rfl) ?_)
                  try simp only [Act.put, List.setIfInBounds_toArray, List.set_cons_zero, List.set_cons_succ]
                  first
                    | (refine' ordS_take (i := 3) (oi := { dst := some 68, op := Op.indexAddr 103 (Operand.tmp 66) (Operand.tmp 67), type := 0, pos := _, after := #[{ on := 1, ground := Ground.data }, { on := 2, ground := Ground.data }], guard := none }) (v := _) rfl (by kernel_rfl) (by kernel_rfl) (by kernel_rfl) (by kernel_rfl) (fun _ _ _ h => h) (by assumption) (Or.inl ⟨by rfl, ?hy214⟩) (fun _ => rfl) ?rest214
                       case hy214 => (intro w hSw; (try dsimp only at hSw); go_simp; try with_reducible rfl))
                    | (refine ordS_take (i := 3) (oi := { dst := some 68, op := Op.indexAddr 103 (Operand.tmp 66) (Operand.tmp 67), type := 0, pos := _, after := #[{ on := 1, ground := Ground.data }, { on := 2, ground := Ground.data }], guard := none }) (v := undef) rfl (by kernel_rfl) (by kernel_rfl) (by kernel_rfl) (by kernel_rfl) (fun _ _ _ h => h) (by assumption) (Or.inr ⟨by rfl, rfl⟩) (fun _ => rfl) ?_)
                  try simp only [Act.put, List.setIfInBounds_toArray, List.set_cons_zero, List.set_cons_succ]
                  first
                    | (refine' ordS_take (i := 4) (oi := { dst := some 69, op := Op.indexAddr 117 (Operand.tmp 68) (Operand.const (Value.int IntKind.i64 0)), type := 0, pos := _, after := #[{ on := 3, ground := Ground.data }], guard := none }) (v := _) rfl (by kernel_rfl) (by kernel_rfl) (by kernel_rfl) (by kernel_rfl) (fun _ _ _ h => h) (by assumption) (Or.inl ⟨by rfl, ?hy215⟩) (fun _ => rfl) ?rest215
                       case hy215 => (intro w hSw; (try dsimp only at hSw); go_simp; try with_reducible rfl))
                    | (refine ordS_take (i := 4) (oi := { dst := some 69, op := Op.indexAddr 117 (Operand.tmp 68) (Operand.const (Value.int IntKind.i64 0)), type := 0, pos := _, after := #[{ on := 3, ground := Ground.data }], guard := none }) (v := undef) rfl (by kernel_rfl) (by kernel_rfl) (by kernel_rfl) (by kernel_rfl) (fun _ _ _ h => h) (by assumption) (Or.inr ⟨by rfl, rfl⟩) (fun _ => rfl) ?_)
                  try simp only [Act.put, List.setIfInBounds_toArray, List.set_cons_zero, List.set_cons_succ]
                  first
                    | (refine' ordS_take (i := 5) (oi := { dst := some 70, op := Op.load 30 (Operand.tmp 69), type := 30, pos := _, after := #[{ on := 4, ground := Ground.data }], guard := none }) (v := _) rfl (by kernel_rfl) (by kernel_rfl) (by kernel_rfl) (by kernel_rfl) (fun _ _ _ h => h) (by assumption) (Or.inl ⟨by rfl, ?hy216⟩) (fun _ => rfl) ?rest216
                       case hy216 => (intro w hSw; (try dsimp only at hSw); go_simp; try with_reducible rfl))
                    | (refine ordS_take (i := 5) (oi := { dst := some 70, op := Op.load 30 (Operand.tmp 69), type := 30, pos := _, after := #[{ on := 4, ground := Ground.data }], guard := none }) (v := undef) rfl (by kernel_rfl) (by kernel_rfl) (by kernel_rfl) (by kernel_rfl) (fun _ _ _ h => h) (by assumption) (Or.inr ⟨by rfl, rfl⟩) (fun _ => rfl) ?_)
                  try simp only [Act.put, List.setIfInBounds_toArray, List.set_cons_zero, List.set_cons_succ]
                  first
                    | (refine' ordS_take (i := 6) (oi := { dst := some 71, op := Op.move (Operand.tmp 1), type := 103, pos := _, after := #[], guard := none }) (v := _) rfl (by kernel_rfl) (by kernel_rfl) (by kernel_rfl) (by kernel_rfl) (fun _ _ _ h => h) (by assumption) (Or.inl ⟨by rfl, ?hy217⟩) (fun _ => rfl) ?rest217
                       case hy217 => (intro w hSw; (try dsimp only at hSw); go_simp; try with_reducible rfl))
                    | (refine ordS_take (i := 6) (oi := { dst := some 71, op := Op.move (Operand.tmp 1), type := 103, pos := _, after := #[], guard := none }) (v := undef) rfl (by kernel_rfl) (by kernel_rfl) (by kernel_rfl) (by kernel_rfl) (fun _ _ _ h => h) (by assumption) (Or.inr ⟨by rfl, rfl⟩) (fun _ => rfl) ?_)
                  try simp only [Act.put, List.setIfInBounds_toArray, List.set_cons_zero, List.set_cons_succ]
                  first
                    | (refine' ordS_take (i := 7) (oi := { dst := some 72, op := Op.move (Operand.tmp 6), type := 3, pos := _, after := #[], guard := none }) (v := _) rfl (by kernel_rfl) (by kernel_rfl) (by kernel_rfl) (by kernel_rfl) (fun _ _ _ h => h) (by assumption) (Or.inl ⟨by rfl, ?hy218⟩) (fun _ => rfl) ?rest218
                       case hy218 => (intro w hSw; (try dsimp only at hSw); go_simp; try with_reducible rfl))
                    | (refine ordS_take (i := 7) (oi := { dst := some 72, op := Op.move (Operand.tmp 6), type := 3, pos := _, after := #[], guard := none }) (v := undef) rfl (by kernel_rfl) (by kernel_rfl) (by kernel_rfl) (by kernel_rfl) (fun _ _ _ h => h) (by assumption) (Or.inr ⟨by rfl, rfl⟩) (fun _ => rfl) ?_)
                  try simp only [Act.put, List.setIfInBounds_toArray, List.set_cons_zero, List.set_cons_succ]
                  first
                    | (refine' ordS_take (i := 8) (oi := { dst := some 73, op := Op.indexAddr 103 (Operand.tmp 71) (Operand.tmp 72), type := 0, pos := _, after := #[{ on := 6, ground := Ground.data }, { on := 7, ground := Ground.data }], guard := none }) (v := _) rfl (by kernel_rfl) (by kernel_rfl) (by kernel_rfl) (by kernel_rfl) (fun _ _ _ h => h) (by assumption) (Or.inl ⟨by rfl, ?hy219⟩) (fun _ => rfl) ?rest219
                       case hy219 => (intro w hSw; (try dsimp only at hSw); go_simp; try with_reducible rfl))
                    | (refine ordS_take (i := 8) (oi := { dst := some 73, op := Op.indexAddr 103 (Operand.tmp 71) (Operand.tmp 72), type := 0, pos := _, after := #[{ on := 6, ground := Ground.data }, { on := 7, ground := Ground.data }], guard := none }) (v := undef) rfl (by kernel_rfl) (by kernel_rfl) (by kernel_rfl) (by kernel_rfl) (fun _ _ _ h => h) (by assumption) (Or.inr ⟨by rfl, rfl⟩) (fun _ => rfl) ?_)
                  try simp only [Act.put, List.setIfInBounds_toArray, List.set_cons_zero, List.set_cons_succ]
                  first
                    | (refine' ordS_take (i := 9) (oi := { dst := some 74, op := Op.indexAddr 117 (Operand.tmp 73) (Operand.const (Value.int IntKind.i64 1)), type := 0, pos := _, after := #[{ on := 8, ground := Ground.data }], guard := none }) (v := _) rfl (by kernel_rfl) (by kernel_rfl) (by kernel_rfl) (by kernel_rfl) (fun _ _ _ h => h) (by assumption) (Or.inl ⟨by rfl, ?hy220⟩) (fun _ => rfl) ?rest220
                       case hy220 => (intro w hSw; (try dsimp only at hSw); go_simp; try with_reducible rfl))
                    | (refine ordS_take (i := 9) (oi := { dst := some 74, op := Op.indexAddr 117 (Operand.tmp 73) (Operand.const (Value.int IntKind.i64 1)), type := 0, pos := _, after := #[{ on := 8, ground := Ground.data }], guard := none }) (v := undef) rfl (by kernel_rfl) (by kernel_rfl) (by kernel_rfl) (by kernel_rfl) (fun _ _ _ h => h) (by assumption) (Or.inr ⟨by rfl, rfl⟩) (fun _ => rfl) ?_)
                  try simp only [Act.put, List.setIfInBounds_toArray, List.set_cons_zero, List.set_cons_succ]
                  first
                    | (refine' ordS_take (i := 10) (oi := { dst := some 75, op := Op.load 30 (Operand.tmp 74), type := 30, pos := _, after := #[{ on := 9, ground := Ground.data }], guard := none }) (v := _) rfl (by kernel_rfl) (by kernel_rfl) (by kernel_rfl) (by kernel_rfl) (fun _ _ _ h => h) (by assumption) (Or.inl ⟨by rfl, ?hy221⟩) (fun _ => rfl) ?rest221
                       case hy221 => (intro w hSw; (try dsimp only at hSw); go_simp; try with_reducible rfl))
                    | (refine ordS_take (i := 10) (oi := { dst := some 75, op := Op.load 30 (Operand.tmp 74), type := 30, pos := _, after := #[{ on := 9, ground := Ground.data }], guard := none }) (v := undef) rfl (by kernel_rfl) (by kernel_rfl) (by kernel_rfl) (by kernel_rfl) (fun _ _ _ h => h) (by assumption) (Or.inr ⟨by rfl, rfl⟩) (fun _ => rfl) ?_)
                  try simp only [Act.put, List.setIfInBounds_toArray, List.set_cons_zero, List.set_cons_succ]
                  first
                    | (refine' ordS_take (i := 11) (oi := { dst := some 76, op := Op.build 98 #[(0, Operand.tmp 70), (1, Operand.tmp 75)], type := 98, pos := _, after := #[{ on := 5, ground := Ground.data }, { on := 10, ground := Ground.data }], guard := none }) (v := _) rfl (by kernel_rfl) (by kernel_rfl) (by kernel_rfl) (by kernel_rfl) (fun _ _ _ h => h) (by assumption) (Or.inl ⟨by rfl, ?hy222⟩) (fun _ => rfl) ?rest222
                       case hy222 => (intro w hSw; (try dsimp only at hSw); go_simp; try with_reducible rfl))
                    | (refine ordS_take (i := 11) (oi := { dst := some 76, op := Op.build 98 #[(0, Operand.tmp 70), (1, Operand.tmp 75)], type := 98, pos := _, after := #[{ on := 5, ground := Ground.data }, { on := 10, ground := Ground.data }], guard := none }) (v := undef) rfl (by kernel_rfl) (by kernel_rfl) (by kernel_rfl) (by kernel_rfl) (fun _ _ _ h => h) (by assumption) (Or.inr ⟨by rfl, rfl⟩) (fun _ => rfl) ?_)
                  try simp only [Act.put, List.setIfInBounds_toArray, List.set_cons_zero, List.set_cons_succ]
                  obtain ⟨W2, hW2⟩ : ∃ W2, wc.drew = W2 := ⟨_, rfl⟩
                  rw [hW2] at hB hS
                  rw [hW2]
                  clear hW2 hH
                  have hown2 := own_later hown hB
                  have hA2 := bl_tr hA hB
                  have f0' := cell_later hB f0; have f1' := cell_later hB f1; have f2' := cell_later hB f2
                  obtain ⟨⟨s0, s1⟩, s2, s3⟩ := hS
                  clear hown hA f0 f1 f2 q0 q1 q2 q3 zq
                  have zs0 := blk_lt s0
                  refine ordS_one (i := 12) (o := { dst := some 77, op := Op.buildSlice 58 1 #[(0, Operand.tmp 76)], type := 58, pos := _, after := #[{ on := 11, ground := Ground.data }], guard := none }) (by kernel_rfl) rfl (by rfl) (fun K hK => ?_)
                  go_simp
                  have hb := bl_al (bl0 W2) (.cells #[.int .i64 p.1.1, .int .i64 p.1.2, .int .i64 p.2.1, .int .i64 p.2.2] 98)
                  have hS3 := And.intro (And.intro (cell_later hb s0) (cell_later hb s1)) (And.intro (cell_later hb s2) (cell_later hb s3))
                  refine hK _ _ hS3 ?_
                  clear hK K
                  try simp only [Act.put, List.setIfInBounds_toArray, List.set_cons_zero, List.set_cons_succ]
                  refine ordS_append (i := 13) (o := { dst := some 78, op := Op.call { callee := Callee.builtin Builtin.append, args := #[Operand.tmp 65, Operand.tmp 77], argTypes := #[58, 58] }, type := 58, pos := _, after := #[{ on := 0, ground := Ground.data }, { on := 12, ground := Ground.data }], guard := none }) _ (by kernel_rfl) rfl (by rfl) _ _ 58 rfl (w.heap.size + 1) 98 i0 (.agg #[.int .i64 0, .int .i64 0, .int .i64 0, .int .i64 0]) 4 32 Tryd.underlying58 hi0 hz0 hz1 hz2 rfl (by decide) _ _ _ rfl (hown2.alloc _) ⟨W2.heap.size, 0, none⟩ 1 1 [.int .i64 p.1.1, .int .i64 p.1.2, .int .i64 p.2.1, .int .i64 p.2.2] rfl rfl ?c1 ?c2 ?c3 ?c4 ?c5 ?_
                  case c1 => exact cell_four W2 (.int .i64 p.1.1) (.int .i64 p.1.2) (.int .i64 p.2.1) (.int .i64 p.2.2) 98
                  case c2 => (first | exact ⟨rfl, rfl, rfl, rfl⟩ | (intro u' hu; simp at hu; rcases hu with rfl | rfl | rfl | rfl <;> rfl))
                  case c3 => unfold maxLen; omega
                  case c4 => omega
                  case c5 => (have := hA2.size; first | (simp; omega) | omega)
                  intro v2 w10 hown' hgrow
                  have hB5 : Below w.heap.size w w10 := (bl_al hA2 (.cells #[.int .i64 p.1.1, .int .i64 p.1.2, .int .i64 p.2.1, .int .i64 p.2.2] 98)).grown hgrow (by have := hA2.size; simp; omega) (fun j hj => by have := (hown2.lt j hj).1; omega)
                  have hne : ∀ j, j < w.heap.size + 1 → some j ≠ Value.ownBlock (.slice v' (G i).length c') := fun j hj e => by have := (hown2.lt _ e.symm).1; omega
                  have g0 := hgrow.cell (cell_later hb f0') (hne w.heap.size (Nat.lt_succ_self _))
                  have g1 := hgrow.cell (cell_later hb f1') (hne w.heap.size (Nat.lt_succ_self _))
                  have g2 := hgrow.cell (cell_later hb f2') (hne w.heap.size (Nat.lt_succ_self _))
                  obtain ⟨g', o', hh, ⟨r0, r1⟩, r2, r3⟩ := (HROW.out.below hB5).cell (show i < l.length by omega)
                  cases hh
                  rw [HPP.out] at r0 r1 r2 r3
                  have hS10 := And.intro (And.intro r0 r1) (And.intro r2 r3)
                  refine ⟨hS10, ?_⟩
                  try simp only [Act.put, List.setIfInBounds_toArray, List.set_cons_zero, List.set_cons_succ]
                  first
                    | (refine' ordS_take (i := 14) (oi := { dst := some 5, op := Op.assign (Operand.tmp 78), type := 58, pos := _, after := #[{ on := 13, ground := Ground.data }, { on := 13, ground := Ground.chain }, { on := 0, ground := Ground.phase }, { on := 1, ground := Ground.phase }, { on := 2, ground := Ground.phase }, { on := 3, ground := Ground.phase }, { on := 4, ground := Ground.phase }, { on := 5, ground := Ground.phase }, { on := 6, ground := Ground.phase }, { on := 7, ground := Ground.phase }, { on := 8, ground := Ground.phase }, { on := 9, ground := Ground.phase }, { on := 10, ground := Ground.phase }, { on := 11, ground := Ground.phase }, { on := 12, ground := Ground.phase }, { on := 13, ground := Ground.phase }], guard := none }) (v := _) rfl (by kernel_rfl) (by kernel_rfl) (by kernel_rfl) (by kernel_rfl) (fun _ _ _ h => h) (by assumption) (Or.inl ⟨by rfl, ?hy223⟩) (fun _ => rfl) ?rest223
                       case hy223 => (intro w hSw; (try dsimp only at hSw); go_simp; try with_reducible rfl))
                    | (refine ordS_take (i := 14) (oi := { dst := some 5, op := Op.assign (Operand.tmp 78), type := 58, pos := _, after := #[{ on := 13, ground := Ground.data }, { on := 13, ground := Ground.chain }, { on := 0, ground := Ground.phase }, { on := 1, ground := Ground.phase }, { on := 2, ground := Ground.phase }, { on := 3, ground := Ground.phase }, { on := 4, ground := Ground.phase }, { on := 5, ground := Ground.phase }, { on := 6, ground := Ground.phase }, { on := 7, ground := Ground.phase }, { on := 8, ground := Ground.phase }, { on := 9, ground := Ground.phase }, { on := 10, ground := Ground.phase }, { on := 11, ground := Ground.phase }, { on := 12, ground := Ground.phase }, { on := 13, ground := Ground.phase }], guard := none }) (v := undef) rfl (by kernel_rfl) (by kernel_rfl) (by kernel_rfl) (by kernel_rfl) (fun _ _ _ h => h) (by assumption) (Or.inr ⟨by rfl, rfl⟩) (fun _ => rfl) ?_)
                  try simp only [Act.put, List.setIfInBounds_toArray, List.set_cons_zero, List.set_cons_succ]
                  refine ordS_done (by kernel_rfl) ?_
                  rw [← flatPP_snoc, ← HGS2.out] at hown'
                  have hlen : (G i).length + 1 = (G (i + 1)).length := by rw [HGS2.out, List.length_append]; rfl
                  rw [hlen] at hown'
                  clear hgrow hown2 hA2 hne f0' f1' f2' s0 s1 s2 s3 zs0 hS3 hb hlen hB hS10 r0 r1 r2 r3
                  have zg := blk_lt g0
                  go_wp2
                  go_roundw
                  case rel => exact ⟨i + 1, by omega, by go_num, hown', hB5, g0, g1, g2⟩
                  case measure => simp [intOf]; omega
                · have hcq2 : ((c : Int) == (q : Int)) = false := by rw [beq_eq_false_iff_ne]; omega
                  rw [if_neg (by rw [decide_eq_true_eq]; exact hcq), List.append_nil] at hgs
                  rw [← hgs] at hown ⊢
                  clear hgs hcq q0 q1 q2 q3 zq
                  go_wp2
                  go_roundw
                  case rel => exact ⟨i + 1, by omega, by go_num, hown, hA, f0, f1, f2⟩
                  case measure => simp [intOf]; omega
end Go.Proofs.YtbdfjdipjacamaaDoor
