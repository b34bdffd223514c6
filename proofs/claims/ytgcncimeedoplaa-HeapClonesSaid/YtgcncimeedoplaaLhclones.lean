/- HeapClones: its walk. -/
import Derived.Test.YtgcncimeedoplaaHv
import Derived.Test.YtgcncimeedoplaaHu
namespace Go.Proofs.Ytgcncimeedoplaa
open Go.RowKit Go.Maps

set_option maxRecDepth 100000 in
set_option maxHeartbeats 16000000 in
theorem hclones_walk (a : Option Addr) (ca : Nat) (ls : List ActD) (n : Int) (w : World) (hd : RowD w a ls) (wf : ∀ k ∈ ls, WfT k.t) :
    Calls Try.prog 7 #[.slice a ls.length ca, .int .i64 n] w fun e w' => e = .returned (.bool true) ∧ Below w.heap.size w w' := by
  have hcn : ∀ w, Calls Try.prog 14 #[.pointer none, .int .i64 1, .agg #[.int .u64 0, .int .u64 0, .int .i64 0, .int .i64 0]] w fun e w' => e = .returned (.int .i64 2) ∧ Below w.heap.size w w' := fun w => hpush_nil 1 ⟨0, 0, 0, 0, 0⟩ w
  have hln : ∀ w, Calls Try.prog 16 #[.pointer none, .int .i64 1, .agg #[.int .u64 0, .int .u64 0, .int .i64 0, .int .i64 0]] w fun e w' => e = .returned (.int .i64 2) ∧ Below w.heap.size w w' := fun w => hlower_nil 1 ⟨0, 0, 0, 0, 0⟩ w
  go_enter Try.func7, Try.ntmps7
  go_wp2_with fail
  refine (hpop_nil _).mono ?_
  rintro e w1 ⟨rfl, hA⟩
  replace hA := bl_al hA (.cells #[.int .u64 0, .int .u64 0, .int .i64 0, .int .i64 0] 24)
  go_wp2_with fail
  refine (hkey_nil 0 _).mono ?_
  rintro e w2 ⟨rfl, hb⟩
  have x0 := cell_later hb (v := .int .u64 0) (a := ⟨w1.heap.size, 0, none⟩) (by simp [go_sem])
  have x1 := cell_later hb (v := .int .u64 0) (a := ⟨w1.heap.size, 1, none⟩) (by simp [go_sem])
  have x2 := cell_later hb (v := .int .i64 0) (a := ⟨w1.heap.size, 2, none⟩) (by simp [go_sem])
  have x3 := cell_later hb (v := .int .i64 0) (a := ⟨w1.heap.size, 3, none⟩) (by simp [go_sem])
  have zx := blk_lt x0
  replace hA := bl_tr hA hb
  replace hA := bl_al hA (.cells #[.int .u64 0, .int .u64 0, .int .i64 0, .int .i64 0] 24)
  clear hb
  go_wp2_with fail
  refine (hlen_nil _).mono ?_
  rintro e w3 ⟨rfl, rfl⟩
  clear x0 x1 x2 x3 zx
  go_wp2_with fail
  refine (hclone_nil _).mono ?_
  rintro e w3 ⟨rfl, rfl⟩
  go_wp2_with fail
  refine (hcn _).mono ?_
  rintro e w3 ⟨rfl, hb⟩
  replace hA := bl_tr hA hb
  clear hb
  go_wp2_with fail
  refine (hln _).mono ?_
  rintro e w4 ⟨rfl, hb⟩
  replace hA := bl_tr hA hb
  clear hb hcn hln
  by_cases hb1 : 60 < ls.length
  · have hb1I : (60 : Int) < (ls.length : Int) := by omega
    go_wp2_with fail
    refine (hawake _).mono ?_
    rintro e w9 ⟨rfl, hb⟩
    have HA := Lib.hid (bl_tr hA hb)
    clear hA hb
    go_wp2
    go_ret
    exact ⟨rfl, HA.out⟩
  have hb1I : (ls.length : Int) ≤ 60 := by omega
  have hb1N : ls.length ≤ 60 := by omega
  have hb1D : decide ((60 : Int) < (ls.length : Int)) = false := decide_eq_false (by omega)
  clear hb1
  by_cases hn0 : n < 0
  ·
    go_wp2_with fail
    refine (hawake _).mono ?_
    rintro e w9 ⟨rfl, hb⟩
    have HA := Lib.hid (bl_tr hA hb)
    clear hA hb
    go_wp2
    go_ret
    exact ⟨rfl, HA.out⟩
  by_cases hn1 : (ls.length : Int) < n
  ·
    go_wp2_with fail
    refine (hawake _).mono ?_
    rintro e w9 ⟨rfl, hb⟩
    have HA := Lib.hid (bl_tr hA hb)
    clear hA hb
    go_wp2
    go_ret
    exact ⟨rfl, HA.out⟩
  obtain ⟨k0, rfl⟩ : ∃ k0 : Nat, n = (k0 : Int) := ⟨n.toNat, by omega⟩
  have hk0 : k0 ≤ ls.length := by omega
  have hk0I : (k0 : Int) ≤ (ls.length : Int) := by omega
  have hk00 : (0 : Int) ≤ (k0 : Int) := by omega
  clear hn0 hn1
  have h0 : Sep w4 w.heap.size [] := Sep.nil hA.size
  go_wp2_with fail
  refine (new_sep h0).mono ?_
  rintro e w5 ⟨p, rfl, h1, hb⟩
  replace hA := bl_tr hA hb
  clear h0 hb
  go_wp2_with fail
  refine (new_sep h1).mono ?_
  rintro e w6 ⟨q, rfl, h2, hb⟩
  replace hA := bl_tr hA hb
  clear h1 hb
  go_wp2
  go_loopw [13] (fun i wr => ∃ k : Nat, k ≤ k0 ∧ i = .int .i64 k ∧ Sep wr w.heap.size [HeapO p (runM (ls.take k)), HeapO q (runM (ls.take k))] ∧ Below w.heap.size w wr) (fun i _ => k0 - (intOf i).toNat)
  case atStart => exact ⟨0, Nat.zero_le _, rfl, h2, hA⟩
  case round =>
    obtain ⟨k, hk, rfl, hS, hAr⟩ := hrel
    clear h2 hA
    have hkl := runM_len ls k
    by_cases hlt : k < k0
    · have hlt2 : (k : Int) < (k0 : Int) := by omega
      have hll : k < ls.length := by omega
      have hlI : (k : Int) < (ls.length : Int) := by omega
      have hk1 : (0 : Int) ≤ (k : Int) := by omega
      have hk2 : (k : Int) ≤ 60 := by omega
      have HD := Lib.hid hd
      obtain ⟨gb, go, rfl, q0, q1, q2, q3, q4, q5⟩ := hd.at hll
      have hwt : WfT (atD ls k).t := wf _ (by simp [atD, List.getD_eq_getElem?_getD, hll])
      have HSN := Lib.hid (runM_snoc hll)
      clear hd
      obtain ⟨dd, hdd⟩ : ∃ dd, (atD ls k).d = dd := ⟨_, rfl⟩
      obtain ⟨t, htt⟩ : ∃ t, (atD ls k).t = t := ⟨_, rfl⟩
      rw [hdd] at q0
      rw [htt] at q1 q2 q3 q4 q5 hwt
      have HST : Hid (stepM (runM (ls.take k)) ⟨dd, t⟩ = runM (ls.take (k + 1))) := Lib.hid (by rw [HSN.out, ← hdd, ← htt])
      have hml : (runM (ls.take k)).length ≤ 1000000 := by omega
      clear hdd htt HSN
      have p0 := cell_later hAr q0
      have p1 := cell_later hAr q1
      have p2 := cell_later hAr q2
      have p3 := cell_later hAr q3
      have p4 := cell_later hAr q4
      have p5 := cell_later hAr q5
      have hcall := does_sep (l1 := []) (l2 := [HeapO q (runM (ls.take k))]) dd t hS hwt.id hml
      rw [HST.out] at hcall
      go_wp2_with fail
      refine hcall.mono ?_
      rintro e w7 ⟨rfl, h7, hb⟩
      have hA7 := hAr.trans hb
      clear hcall hb hS hAr p0 p1 p2 p3 p4 p5
      have p0 := cell_later hA7 q0
      have p1 := cell_later hA7 q1
      have p2 := cell_later hA7 q2
      have p3 := cell_later hA7 q3
      have p4 := cell_later hA7 q4
      have p5 := cell_later hA7 q5
      have hcall := does_sep (l1 := [HeapO p (runM (ls.take (k + 1)))]) (l2 := []) dd t h7 hwt.id hml
      rw [HST.out] at hcall
      go_wp2_with fail
      refine hcall.mono ?_
      rintro e w8 ⟨rfl, h8, hb⟩
      have hA8 := hA7.trans hb
      clear hcall hb h7 hA7 p0 p1 p2 p3 p4 p5 q0 q1 q2 q3 q4 q5
      go_wp2
      go_roundw
      case rel => exact ⟨k + 1, by omega, by go_num, h8, hA8⟩
      case measure => simp [intOf]; omega
    · have hge : (k0 : Int) ≤ (k : Int) := by omega
      obtain rfl : k = k0 := by omega
      clear hlt hge hk
      obtain ⟨m, hm⟩ : ∃ m, runM (ls.take k) = m := ⟨_, rfl⟩
      rw [hm] at hS hkl
      have hml : m.length ≤ 60 := by omega
      clear hm
      have hcall := clone_sep (l1 := []) (l2 := [HeapO q m]) hS (by omega)
      go_wp2_with fail
      refine hcall.mono ?_
      rintro e w7 ⟨c, rfl, h7, hb⟩
      have hA7 := bl_tr hAr hb
      clear hcall hb hS hAr
      have hcall := len_sep (l1 := [HeapO p m, HeapO q m]) (l2 := []) h7
      go_wp2_with fail
      refine hcall.mono ?_
      rintro e w8 ⟨rfl, rfl⟩
      clear hcall
      have hcall := len_sep (l1 := []) (l2 := [HeapO q m, HeapO c m]) h7
      go_wp2_with fail
      refine hcall.mono ?_
      rintro e w9 ⟨rfl, rfl⟩
      clear hcall
      have hnn : ((m.length : Int) != (m.length : Int)) = false := by simp
      go_wp2
      go_loopw [15] (fun i wr => ∃ (k1 : Nat) (mc : List Th), k1 ≤ ls.length ∧ i = .int .i64 k1 ∧ mc.length ≤ 60 + k1 ∧ Sep wr w.heap.size [HeapO p m, HeapO q m, HeapO c mc] ∧ Below w.heap.size w wr) (fun i _ => ls.length - (intOf i).toNat)
      case atStart => exact ⟨k, m, hk0, rfl, by omega, h7, hA7⟩
      case round =>
        obtain ⟨k1, mc, hk, rfl, hmc, hS, hAr⟩ := hrel
        clear h7 hA7
        by_cases hlt : k1 < ls.length
        · have hlI : (k1 : Int) < (ls.length : Int) := by omega
          have hk1 : (0 : Int) ≤ (k1 : Int) := by omega
          have hk2 : (k1 : Int) ≤ 60 := by omega
          have HD := Lib.hid hd
          obtain ⟨gb, go, rfl, q0, q1, q2, q3, q4, q5⟩ := hd.at hlt
          have hwt : WfT (atD ls k1).t := wf _ (by simp [atD, List.getD_eq_getElem?_getD, hlt])
          clear hd
          generalize (atD ls k1).d = dd at *
          generalize (atD ls k1).t = t at *
          replace q0 := cell_later hAr q0
          replace q1 := cell_later hAr q1
          replace q2 := cell_later hAr q2
          replace q3 := cell_later hAr q3
          replace q4 := cell_later hAr q4
          replace q5 := cell_later hAr q5
          have hcall := does_sep (l1 := [HeapO p m, HeapO q m]) (l2 := []) dd t hS hwt.id (by omega)
          have hsl := stepM_len mc ⟨dd, t⟩
          generalize stepM mc ⟨dd, t⟩ = mc2 at *
          go_wp2_with fail
          refine hcall.mono ?_
          rintro e w8 ⟨rfl, h8, hb⟩
          have hA8 := hAr.trans hb
          clear hcall hb hS hAr q0 q1 q2 q3 q4 q5
          go_wp2
          go_roundw
          case rel => exact ⟨k1 + 1, mc2, by omega, by go_num, by omega, h8, hA8⟩
          case measure => simp [intOf]; omega
        · have hge : (ls.length : Int) ≤ (k1 : Int) := by omega
          obtain rfl : k1 = ls.length := by omega
          clear hlt hge hk
          have hcall := len_sep (l1 := []) (l2 := [HeapO q m, HeapO c mc]) hS
          go_wp2_with fail
          refine hcall.mono ?_
          rintro e w8 ⟨rfl, rfl⟩
          clear hcall
          have hcall := len_sep (l1 := [HeapO p m]) (l2 := [HeapO c mc]) hS
          go_wp2_with fail
          refine hcall.mono ?_
          rintro e w9 ⟨rfl, rfl⟩
          clear hcall
          have hn60 : decide ((60 : Int) < (m.length : Int)) = false := decide_eq_false (by omega)
          have hn61 : (m.length : Int) ≤ 60 := by omega
          obtain ⟨N, hN⟩ : ∃ N, m.length = N := ⟨_, rfl⟩
          rw [hN] at hn60 hn61 hnn hml
          go_upto_region 25 with fail
          clear hN
          go_wp2
          go_loopw [17] (fun i wr => ∃ (k2 : Nat) (m2 : List Th), k2 ≤ N ∧ i = .int .i64 k2 ∧ m2.length ≤ 60 ∧ Sep wr w.heap.size [HeapO p m2, HeapO q m2, HeapO c mc] ∧ Below w.heap.size w wr) (fun i _ => N - (intOf i).toNat)
          case atStart => exact ⟨0, m, Nat.zero_le _, rfl, by omega, hS, hAr⟩
          case round =>
            obtain ⟨k2, m2, hk, rfl, hm2, hS, hAr⟩ := hrel
            by_cases hlt : k2 < N
            · have hlI : (k2 : Int) < (N : Int) := by omega
              have hk1 : (0 : Int) ≤ (k2 : Int) := by omega
              have hk2 : (k2 : Int) ≤ 60 := by omega
              have hcall := pop_sep (l1 := []) (l2 := [HeapO q m2, HeapO c mc]) hS (by omega)
              have hpl := popM_len m2
              go_wp2_with fail
              refine hcall.mono ?_
              rintro e w10 ⟨rfl, h10, hb⟩
              have hA10 := hAr.trans hb
              clear hcall hb hS hAr
              replace h10 := h10.box #[.int .u64 (firstT m2).F, .int .u64 (firstT m2).H, .int .i64 (firstT m2).Y, .int .i64 (firstT m2).X] 24
              replace hA10 := bl_al hA10 (.cells #[.int .u64 (firstT m2).F, .int .u64 (firstT m2).H, .int .i64 (firstT m2).Y, .int .i64 (firstT m2).X] 24)
              have hcall := pop_sep (l1 := [HeapO p (popM m2)]) (l2 := [HeapO c mc, CellsO w10.heap.size #[.int .u64 (firstT m2).F, .int .u64 (firstT m2).H, .int .i64 (firstT m2).Y, .int .i64 (firstT m2).X] 24]) h10 (by omega)
              generalize hm3 : popM m2 = m3 at *
              generalize firstT m2 = t at *
              generalize m2.isEmpty = em at *
              clear hm3
              go_wp2_with fail
              refine hcall.mono ?_
              rintro e w11 ⟨rfl, h11, hb⟩
              have hA11 := hA10.trans hb
              clear hcall hb h10 hA10
              obtain ⟨rt, _⟩ := Sep.cells (l1 := [HeapO p m3, HeapO q m3, HeapO c mc]) (l2 := []) h11
              have x0 : w11.cell? ⟨w10.heap.size, 0, none⟩ = some (.int .u64 t.F) := by simp [World.cell?, rt]
              have x1 : w11.cell? ⟨w10.heap.size, 1, none⟩ = some (.int .u64 t.H) := by simp [World.cell?, rt]
              have x2 : w11.cell? ⟨w10.heap.size, 2, none⟩ = some (.int .i64 t.Y) := by simp [World.cell?, rt]
              have x3 : w11.cell? ⟨w10.heap.size, 3, none⟩ = some (.int .i64 t.X) := by simp [World.cell?, rt]
              have zx := blk_lt x0
              have hii : (t.id != t.id) = false := by simp
              have h12 := (Sep.drop (l1 := [HeapO p m3, HeapO q m3, HeapO c mc]) (l2 := []) h11).below (bl_al (bl0 w11) (.cells #[.int .u64 t.F, .int .u64 t.H, .int .i64 t.Y, .int .i64 t.X] 24))
              have hA12 := bl_al hA11 (.cells #[.int .u64 t.F, .int .u64 t.H, .int .i64 t.Y, .int .i64 t.X] 24)
              have H12 := Lib.hid h12
              have HA12 := Lib.hid hA12
              clear h11 hA11 rt h12 hA12
              go_wp2
              go_roundw
              case rel => exact ⟨k2 + 1, m3, by omega, by go_num, by omega, H12.out, HA12.out⟩
              case measure => simp [intOf]; omega
            · have hge : (N : Int) ≤ (k2 : Int) := by omega
              have hA := hAr
              clear hS
              go_wp2_with fail
              refine (hawake _).mono ?_
              rintro e w9 ⟨rfl, hb⟩
              have HA := Lib.hid (bl_tr hA hb)
              clear hA hb
              go_wp2
              go_ret
              exact ⟨rfl, HA.out⟩
end Go.Proofs.Ytgcncimeedoplaa
