/- InnerVia: the law's walk. -/
import Derived.Test.YtgbhafadibdmcaaDoorXz
namespace Go.Proofs.YtgbhafadibdmcaaDoor
open Go.RowKit

set_option maxRecDepth 100000 in
set_option maxHeartbeats 8000000 in
/-- What is not asked. -/
theorem ivia_off (A B : Int) (a : Option Addr) (cap : Nat) (zs : List Int) (X Y S id : Int) (ca : Option Addr) (cc : Nat) (cs : List IC) (p : IC) (w : World) (hs : Stp w) (h : ¬ ((zs.length ≤ 260 ∧ cs.length ≤ 60) ∧ cs.length ≤ 30)) :
    Calls Tryd.prog 5 #[.agg #[.int .i64 A, .int .i64 B, .slice a zs.length cap], .agg #[.int .i64 X, .int .i64 Y, .int .i64 S], .agg #[.int .i64 id, .slice ca cs.length cc, .int .i64 p.1, .int .i64 p.2]] w fun e w' => e = .returned (.bool true) ∧ Below w.heap.size w w' := by
  have hA := bl0 w
  have H1 := Lib.hid (fun w => small13_any A B a zs.length cap id ca cs.length cc p w)
  by_cases hsm : zs.length ≤ 260 ∧ cs.length ≤ 60
  · rw [decide_eq_true hsm.1, decide_eq_true hsm.2] at H1
    have b1 : decide (30 < cs.length) = true := decide_eq_true (by omega)
    have i1 : decide ((30 : Int) < (cs.length : Int)) = true := decide_eq_true (by omega)
    clear h hsm
    go_enter Tryd.func5, Tryd.ntmps5
    go_wp2_with fail
    refine (H1.out _).mono ?_
    rintro e w1 ⟨rfl, hb⟩
    have hk : Below w.heap.size w w1 := by first | exact hb | exact bl_tr (bl_al (bl0 _) _) hb | exact bl_tr (bl_dr (bl_al (bl0 _) _)) hb | exact bl_tr (bl_al (bl_al (bl0 _) _) _) hb | exact bl_tr (bl_dr (bl_al (bl_al (bl0 _) _) _)) hb | exact bl_tr (bl_al (bl_al (bl_al (bl0 _) _) _) _) hb | exact bl_tr (bl_dr (bl_al (bl_al (bl_al (bl0 _) _) _) _)) hb | exact bl_tr (bl_al (bl_al (bl_al (bl_al (bl0 _) _) _) _) _) hb | exact bl_tr (bl_dr (bl_al (bl_al (bl_al (bl_al (bl0 _) _) _) _) _)) hb | exact bl_tr (bl_al (bl_al (bl_al (bl_al (bl_al (bl0 _) _) _) _) _) _) hb | exact bl_tr (bl_dr (bl_al (bl_al (bl_al (bl_al (bl_al (bl0 _) _) _) _) _) _)) hb | exact bl_tr (bl_al (bl_al (bl_al (bl_al (bl_al (bl_al (bl0 _) _) _) _) _) _) _) hb | exact bl_tr (bl_dr (bl_al (bl_al (bl_al (bl_al (bl_al (bl_al (bl0 _) _) _) _) _) _) _)) hb | exact bl_tr (bl_dr (bl0 _)) hb
    replace hA := bl_tr hA hk
    have f0 := cell_later hb (v := .int .i64 A) (a := ⟨w.heap.size, 0, none⟩) (by simp [go_sem])
    have f1 := cell_later hb (v := .int .i64 B) (a := ⟨w.heap.size, 1, none⟩) (by simp [go_sem])
    have f2 := cell_later hb (v := .slice a zs.length cap) (a := ⟨w.heap.size, 2, none⟩) (by simp [go_sem])
    have p0 := cell_later hb (v := .int .i64 X) (a := ⟨w.heap.size + 1, 0, none⟩) (by simp [go_sem])
    have p1 := cell_later hb (v := .int .i64 Y) (a := ⟨w.heap.size + 1, 1, none⟩) (by simp [go_sem])
    have p2 := cell_later hb (v := .int .i64 S) (a := ⟨w.heap.size + 1, 2, none⟩) (by simp [go_sem])
    have c0 := cell_later hb (v := .int .i64 id) (a := ⟨w.heap.size + 1 + 1, 0, none⟩) (by simp [go_sem])
    have c1 := cell_later hb (v := .slice ca cs.length cc) (a := ⟨w.heap.size + 1 + 1, 1, none⟩) (by simp [go_sem])
    clear hb hk
    have zf0 := blk_lt f0
    have zf1 := blk_lt f1
    have zf2 := blk_lt f2
    have zp0 := blk_lt p0
    have zp1 := blk_lt p1
    have zp2 := blk_lt p2
    have zc0 := blk_lt c0
    have zc1 := blk_lt c1
    go_wp2_with fail
    refine (awake13 _ (hs.below (by first | exact hA | exact (bl_al hA _) | exact (bl_dr (bl_al hA _)) | exact (bl_al (bl_al hA _) _) | exact (bl_dr (bl_al (bl_al hA _) _)) | exact (bl_al (bl_al (bl_al hA _) _) _) | exact (bl_dr (bl_al (bl_al (bl_al hA _) _) _)) | exact (bl_al (bl_al (bl_al (bl_al hA _) _) _) _) | exact (bl_dr (bl_al (bl_al (bl_al (bl_al hA _) _) _) _)) | exact (bl_al (bl_al (bl_al (bl_al (bl_al hA _) _) _) _) _) | exact (bl_dr (bl_al (bl_al (bl_al (bl_al (bl_al hA _) _) _) _) _)) | exact (bl_al (bl_al (bl_al (bl_al (bl_al (bl_al hA _) _) _) _) _) _) | exact (bl_dr (bl_al (bl_al (bl_al (bl_al (bl_al (bl_al hA _) _) _) _) _) _)) | exact (bl_dr hA)))).mono ?_
    rintro e w2 ⟨rfl, hb⟩
    have hk : Below w1.heap.size w1 w2 := by first | exact hb | exact bl_tr (bl_al (bl0 _) _) hb | exact bl_tr (bl_dr (bl_al (bl0 _) _)) hb | exact bl_tr (bl_al (bl_al (bl0 _) _) _) hb | exact bl_tr (bl_dr (bl_al (bl_al (bl0 _) _) _)) hb | exact bl_tr (bl_al (bl_al (bl_al (bl0 _) _) _) _) hb | exact bl_tr (bl_dr (bl_al (bl_al (bl_al (bl0 _) _) _) _)) hb | exact bl_tr (bl_al (bl_al (bl_al (bl_al (bl0 _) _) _) _) _) hb | exact bl_tr (bl_dr (bl_al (bl_al (bl_al (bl_al (bl0 _) _) _) _) _)) hb | exact bl_tr (bl_al (bl_al (bl_al (bl_al (bl_al (bl0 _) _) _) _) _) _) hb | exact bl_tr (bl_dr (bl_al (bl_al (bl_al (bl_al (bl_al (bl0 _) _) _) _) _) _)) hb | exact bl_tr (bl_al (bl_al (bl_al (bl_al (bl_al (bl_al (bl0 _) _) _) _) _) _) _) hb | exact bl_tr (bl_dr (bl_al (bl_al (bl_al (bl_al (bl_al (bl_al (bl0 _) _) _) _) _) _) _)) hb | exact bl_tr (bl_dr (bl0 _)) hb
    replace hA := bl_tr hA hk
    clear hb hk
    go_wp2
    go_ret
    exact ⟨rfl, hA⟩
  · rw [small13_no hsm] at H1
    clear h hsm
    go_enter Tryd.func5, Tryd.ntmps5
    go_wp2_with fail
    refine (H1.out _).mono ?_
    rintro e w1 ⟨rfl, hb⟩
    have hk : Below w.heap.size w w1 := by first | exact hb | exact bl_tr (bl_al (bl0 _) _) hb | exact bl_tr (bl_dr (bl_al (bl0 _) _)) hb | exact bl_tr (bl_al (bl_al (bl0 _) _) _) hb | exact bl_tr (bl_dr (bl_al (bl_al (bl0 _) _) _)) hb | exact bl_tr (bl_al (bl_al (bl_al (bl0 _) _) _) _) hb | exact bl_tr (bl_dr (bl_al (bl_al (bl_al (bl0 _) _) _) _)) hb | exact bl_tr (bl_al (bl_al (bl_al (bl_al (bl0 _) _) _) _) _) hb | exact bl_tr (bl_dr (bl_al (bl_al (bl_al (bl_al (bl0 _) _) _) _) _)) hb | exact bl_tr (bl_al (bl_al (bl_al (bl_al (bl_al (bl0 _) _) _) _) _) _) hb | exact bl_tr (bl_dr (bl_al (bl_al (bl_al (bl_al (bl_al (bl0 _) _) _) _) _) _)) hb | exact bl_tr (bl_al (bl_al (bl_al (bl_al (bl_al (bl_al (bl0 _) _) _) _) _) _) _) hb | exact bl_tr (bl_dr (bl_al (bl_al (bl_al (bl_al (bl_al (bl_al (bl0 _) _) _) _) _) _) _)) hb | exact bl_tr (bl_dr (bl0 _)) hb
    replace hA := bl_tr hA hk
    have f0 := cell_later hb (v := .int .i64 A) (a := ⟨w.heap.size, 0, none⟩) (by simp [go_sem])
    have f1 := cell_later hb (v := .int .i64 B) (a := ⟨w.heap.size, 1, none⟩) (by simp [go_sem])
    have f2 := cell_later hb (v := .slice a zs.length cap) (a := ⟨w.heap.size, 2, none⟩) (by simp [go_sem])
    have p0 := cell_later hb (v := .int .i64 X) (a := ⟨w.heap.size + 1, 0, none⟩) (by simp [go_sem])
    have p1 := cell_later hb (v := .int .i64 Y) (a := ⟨w.heap.size + 1, 1, none⟩) (by simp [go_sem])
    have p2 := cell_later hb (v := .int .i64 S) (a := ⟨w.heap.size + 1, 2, none⟩) (by simp [go_sem])
    have c0 := cell_later hb (v := .int .i64 id) (a := ⟨w.heap.size + 1 + 1, 0, none⟩) (by simp [go_sem])
    have c1 := cell_later hb (v := .slice ca cs.length cc) (a := ⟨w.heap.size + 1 + 1, 1, none⟩) (by simp [go_sem])
    clear hb hk
    have zf0 := blk_lt f0
    have zf1 := blk_lt f1
    have zf2 := blk_lt f2
    have zp0 := blk_lt p0
    have zp1 := blk_lt p1
    have zp2 := blk_lt p2
    have zc0 := blk_lt c0
    have zc1 := blk_lt c1
    go_wp2_with fail
    refine (awake13 _ (hs.below (by first | exact hA | exact (bl_al hA _) | exact (bl_dr (bl_al hA _)) | exact (bl_al (bl_al hA _) _) | exact (bl_dr (bl_al (bl_al hA _) _)) | exact (bl_al (bl_al (bl_al hA _) _) _) | exact (bl_dr (bl_al (bl_al (bl_al hA _) _) _)) | exact (bl_al (bl_al (bl_al (bl_al hA _) _) _) _) | exact (bl_dr (bl_al (bl_al (bl_al (bl_al hA _) _) _) _)) | exact (bl_al (bl_al (bl_al (bl_al (bl_al hA _) _) _) _) _) | exact (bl_dr (bl_al (bl_al (bl_al (bl_al (bl_al hA _) _) _) _) _)) | exact (bl_al (bl_al (bl_al (bl_al (bl_al (bl_al hA _) _) _) _) _) _) | exact (bl_dr (bl_al (bl_al (bl_al (bl_al (bl_al (bl_al hA _) _) _) _) _) _)) | exact (bl_dr hA)))).mono ?_
    rintro e w2 ⟨rfl, hb⟩
    have hk : Below w1.heap.size w1 w2 := by first | exact hb | exact bl_tr (bl_al (bl0 _) _) hb | exact bl_tr (bl_dr (bl_al (bl0 _) _)) hb | exact bl_tr (bl_al (bl_al (bl0 _) _) _) hb | exact bl_tr (bl_dr (bl_al (bl_al (bl0 _) _) _)) hb | exact bl_tr (bl_al (bl_al (bl_al (bl0 _) _) _) _) hb | exact bl_tr (bl_dr (bl_al (bl_al (bl_al (bl0 _) _) _) _)) hb | exact bl_tr (bl_al (bl_al (bl_al (bl_al (bl0 _) _) _) _) _) hb | exact bl_tr (bl_dr (bl_al (bl_al (bl_al (bl_al (bl0 _) _) _) _) _)) hb | exact bl_tr (bl_al (bl_al (bl_al (bl_al (bl_al (bl0 _) _) _) _) _) _) hb | exact bl_tr (bl_dr (bl_al (bl_al (bl_al (bl_al (bl_al (bl0 _) _) _) _) _) _)) hb | exact bl_tr (bl_al (bl_al (bl_al (bl_al (bl_al (bl_al (bl0 _) _) _) _) _) _) _) hb | exact bl_tr (bl_dr (bl_al (bl_al (bl_al (bl_al (bl_al (bl_al (bl0 _) _) _) _) _) _) _)) hb | exact bl_tr (bl_dr (bl0 _)) hb
    replace hA := bl_tr hA hk
    clear hb hk
    go_wp2
    go_ret
    exact ⟨rfl, hA⟩
set_option maxRecDepth 100000 in
set_option maxHeartbeats 8000000 in
/-- Where the answer is no. -/
theorem ivia_no (A B : Int) (a : Option Addr) (cap : Nat) (zs : List Int) (X Y S id : Int) (ca : Option Addr) (cc : Nat) (cs : List IC) (p : IC) (w : World) (hs : Stp w) (hr : RowH w a zs) (hz : AllH zs) (hc : zs.length ≤ cap) (hcs : RowC w ca cs) (hsm : zs.length ≤ 260 ∧ cs.length ≤ 60) (h30 : cs.length ≤ 30) (h0 : chkI A B zs.length X Y S id cs ≠ 0) :
    Calls Tryd.prog 5 #[.agg #[.int .i64 A, .int .i64 B, .slice a zs.length cap], .agg #[.int .i64 X, .int .i64 Y, .int .i64 S], .agg #[.int .i64 id, .slice ca cs.length cc, .int .i64 p.1, .int .i64 p.2]] w fun e w' => e = .returned (.bool true) ∧ Below w.heap.size w w' := by
  have hA := bl0 w
  have H1 := Lib.hid (fun w => small13_any A B a zs.length cap id ca cs.length cc p w)
  rw [decide_eq_true hsm.1, decide_eq_true hsm.2] at H1
  have b1 : decide (30 < cs.length) = false := decide_eq_false (by omega)
  have i1 : decide ((30 : Int) < (cs.length : Int)) = false := decide_eq_false (by omega)
  have hl : cs.length ≤ 1048576 := by omega
  have H2 := Lib.hid (fun w hr hcs hs => of_i A B a cap zs X Y S id ca cc cs w hr hz hc hcs hl hs)
  unfold OfR at H2
  have hT : ofRows A B zs X Y S id cs = [] := by unfold ofRows; rw [if_neg h0]
  have hK : ofCel A B zs.length X Y S id cs = [] := by unfold ofCel; rw [if_neg h0]
  rw [hT, hK] at H2
  simp only [List.length_nil] at H2
  obtain ⟨E, hE⟩ : ∃ E, chkI A B zs.length X Y S id cs = E := ⟨_, rfl⟩
  rw [hE] at H2 h0
  have e3 : (E != 0) = true := by rw [bne_iff_ne]; exact h0
  clear hT hK hE h0 hsm hl hz hc h30
  go_enter Tryd.func5, Tryd.ntmps5
  go_wp2_with fail
  refine (H1.out _).mono ?_
  rintro e w1 ⟨rfl, hb⟩
  have hk : Below w.heap.size w w1 := by first | exact hb | exact bl_tr (bl_al (bl0 _) _) hb | exact bl_tr (bl_dr (bl_al (bl0 _) _)) hb | exact bl_tr (bl_al (bl_al (bl0 _) _) _) hb | exact bl_tr (bl_dr (bl_al (bl_al (bl0 _) _) _)) hb | exact bl_tr (bl_al (bl_al (bl_al (bl0 _) _) _) _) hb | exact bl_tr (bl_dr (bl_al (bl_al (bl_al (bl0 _) _) _) _)) hb | exact bl_tr (bl_al (bl_al (bl_al (bl_al (bl0 _) _) _) _) _) hb | exact bl_tr (bl_dr (bl_al (bl_al (bl_al (bl_al (bl0 _) _) _) _) _)) hb | exact bl_tr (bl_al (bl_al (bl_al (bl_al (bl_al (bl0 _) _) _) _) _) _) hb | exact bl_tr (bl_dr (bl_al (bl_al (bl_al (bl_al (bl_al (bl0 _) _) _) _) _) _)) hb | exact bl_tr (bl_al (bl_al (bl_al (bl_al (bl_al (bl_al (bl0 _) _) _) _) _) _) _) hb | exact bl_tr (bl_dr (bl_al (bl_al (bl_al (bl_al (bl_al (bl_al (bl0 _) _) _) _) _) _) _)) hb | exact bl_tr (bl_dr (bl0 _)) hb
  replace hA := bl_tr hA hk
  have f0 := cell_later hb (v := .int .i64 A) (a := ⟨w.heap.size, 0, none⟩) (by simp [go_sem])
  have f1 := cell_later hb (v := .int .i64 B) (a := ⟨w.heap.size, 1, none⟩) (by simp [go_sem])
  have f2 := cell_later hb (v := .slice a zs.length cap) (a := ⟨w.heap.size, 2, none⟩) (by simp [go_sem])
  have p0 := cell_later hb (v := .int .i64 X) (a := ⟨w.heap.size + 1, 0, none⟩) (by simp [go_sem])
  have p1 := cell_later hb (v := .int .i64 Y) (a := ⟨w.heap.size + 1, 1, none⟩) (by simp [go_sem])
  have p2 := cell_later hb (v := .int .i64 S) (a := ⟨w.heap.size + 1, 2, none⟩) (by simp [go_sem])
  have c0 := cell_later hb (v := .int .i64 id) (a := ⟨w.heap.size + 1 + 1, 0, none⟩) (by simp [go_sem])
  have c1 := cell_later hb (v := .slice ca cs.length cc) (a := ⟨w.heap.size + 1 + 1, 1, none⟩) (by simp [go_sem])
  clear hb hk
  have zf0 := blk_lt f0
  have zf1 := blk_lt f1
  have zf2 := blk_lt f2
  have zp0 := blk_lt p0
  have zp1 := blk_lt p1
  have zp2 := blk_lt p2
  have zc0 := blk_lt c0
  have zc1 := blk_lt c1
  go_wp2_with fail
  refine (H2.out _ (hr.below (by first | exact hA | exact (bl_al hA _) | exact (bl_dr (bl_al hA _)) | exact (bl_al (bl_al hA _) _) | exact (bl_dr (bl_al (bl_al hA _) _)) | exact (bl_al (bl_al (bl_al hA _) _) _) | exact (bl_dr (bl_al (bl_al (bl_al hA _) _) _)) | exact (bl_al (bl_al (bl_al (bl_al hA _) _) _) _) | exact (bl_dr (bl_al (bl_al (bl_al (bl_al hA _) _) _) _)) | exact (bl_al (bl_al (bl_al (bl_al (bl_al hA _) _) _) _) _) | exact (bl_dr (bl_al (bl_al (bl_al (bl_al (bl_al hA _) _) _) _) _)) | exact (bl_al (bl_al (bl_al (bl_al (bl_al (bl_al hA _) _) _) _) _) _) | exact (bl_dr (bl_al (bl_al (bl_al (bl_al (bl_al (bl_al hA _) _) _) _) _) _)) | exact (bl_dr hA))) (hcs.below (by first | exact hA | exact (bl_al hA _) | exact (bl_dr (bl_al hA _)) | exact (bl_al (bl_al hA _) _) | exact (bl_dr (bl_al (bl_al hA _) _)) | exact (bl_al (bl_al (bl_al hA _) _) _) | exact (bl_dr (bl_al (bl_al (bl_al hA _) _) _)) | exact (bl_al (bl_al (bl_al (bl_al hA _) _) _) _) | exact (bl_dr (bl_al (bl_al (bl_al (bl_al hA _) _) _) _)) | exact (bl_al (bl_al (bl_al (bl_al (bl_al hA _) _) _) _) _) | exact (bl_dr (bl_al (bl_al (bl_al (bl_al (bl_al hA _) _) _) _) _)) | exact (bl_al (bl_al (bl_al (bl_al (bl_al (bl_al hA _) _) _) _) _) _) | exact (bl_dr (bl_al (bl_al (bl_al (bl_al (bl_al (bl_al hA _) _) _) _) _) _)) | exact (bl_dr hA))) (hs.below (by first | exact hA | exact (bl_al hA _) | exact (bl_dr (bl_al hA _)) | exact (bl_al (bl_al hA _) _) | exact (bl_dr (bl_al (bl_al hA _) _)) | exact (bl_al (bl_al (bl_al hA _) _) _) | exact (bl_dr (bl_al (bl_al (bl_al hA _) _) _)) | exact (bl_al (bl_al (bl_al (bl_al hA _) _) _) _) | exact (bl_dr (bl_al (bl_al (bl_al (bl_al hA _) _) _) _)) | exact (bl_al (bl_al (bl_al (bl_al (bl_al hA _) _) _) _) _) | exact (bl_dr (bl_al (bl_al (bl_al (bl_al (bl_al hA _) _) _) _) _)) | exact (bl_al (bl_al (bl_al (bl_al (bl_al (bl_al hA _) _) _) _) _) _) | exact (bl_dr (bl_al (bl_al (bl_al (bl_al (bl_al (bl_al hA _) _) _) _) _) _)) | exact (bl_dr hA)))).mono ?_
  rintro e w2 ⟨ka, kc, ta, tc, rfl, ho, ht, hb⟩
  have hk : Below w1.heap.size w1 w2 := by first | exact hb | exact bl_tr (bl_al (bl0 _) _) hb | exact bl_tr (bl_dr (bl_al (bl0 _) _)) hb | exact bl_tr (bl_al (bl_al (bl0 _) _) _) hb | exact bl_tr (bl_dr (bl_al (bl_al (bl0 _) _) _)) hb | exact bl_tr (bl_al (bl_al (bl_al (bl0 _) _) _) _) hb | exact bl_tr (bl_dr (bl_al (bl_al (bl_al (bl0 _) _) _) _)) hb | exact bl_tr (bl_al (bl_al (bl_al (bl_al (bl0 _) _) _) _) _) hb | exact bl_tr (bl_dr (bl_al (bl_al (bl_al (bl_al (bl0 _) _) _) _) _)) hb | exact bl_tr (bl_al (bl_al (bl_al (bl_al (bl_al (bl0 _) _) _) _) _) _) hb | exact bl_tr (bl_dr (bl_al (bl_al (bl_al (bl_al (bl_al (bl0 _) _) _) _) _) _)) hb | exact bl_tr (bl_al (bl_al (bl_al (bl_al (bl_al (bl_al (bl0 _) _) _) _) _) _) _) hb | exact bl_tr (bl_dr (bl_al (bl_al (bl_al (bl_al (bl_al (bl_al (bl0 _) _) _) _) _) _) _)) hb | exact bl_tr (bl_dr (bl0 _)) hb
  replace hA := bl_tr hA hk
  replace f0 := cell_later hk f0
  clear hb hk
  have zf0 := blk_lt f0
  clear ho ht f0
  go_wp2_with fail
  refine (awake13 _ (hs.below (by first | exact hA | exact (bl_al hA _) | exact (bl_dr (bl_al hA _)) | exact (bl_al (bl_al hA _) _) | exact (bl_dr (bl_al (bl_al hA _) _)) | exact (bl_al (bl_al (bl_al hA _) _) _) | exact (bl_dr (bl_al (bl_al (bl_al hA _) _) _)) | exact (bl_al (bl_al (bl_al (bl_al hA _) _) _) _) | exact (bl_dr (bl_al (bl_al (bl_al (bl_al hA _) _) _) _)) | exact (bl_al (bl_al (bl_al (bl_al (bl_al hA _) _) _) _) _) | exact (bl_dr (bl_al (bl_al (bl_al (bl_al (bl_al hA _) _) _) _) _)) | exact (bl_al (bl_al (bl_al (bl_al (bl_al (bl_al hA _) _) _) _) _) _) | exact (bl_dr (bl_al (bl_al (bl_al (bl_al (bl_al (bl_al hA _) _) _) _) _) _)) | exact (bl_dr hA)))).mono ?_
  rintro e w3 ⟨rfl, hb⟩
  have hk : Below w2.heap.size w2 w3 := by first | exact hb | exact bl_tr (bl_al (bl0 _) _) hb | exact bl_tr (bl_dr (bl_al (bl0 _) _)) hb | exact bl_tr (bl_al (bl_al (bl0 _) _) _) hb | exact bl_tr (bl_dr (bl_al (bl_al (bl0 _) _) _)) hb | exact bl_tr (bl_al (bl_al (bl_al (bl0 _) _) _) _) hb | exact bl_tr (bl_dr (bl_al (bl_al (bl_al (bl0 _) _) _) _)) hb | exact bl_tr (bl_al (bl_al (bl_al (bl_al (bl0 _) _) _) _) _) hb | exact bl_tr (bl_dr (bl_al (bl_al (bl_al (bl_al (bl0 _) _) _) _) _)) hb | exact bl_tr (bl_al (bl_al (bl_al (bl_al (bl_al (bl0 _) _) _) _) _) _) hb | exact bl_tr (bl_dr (bl_al (bl_al (bl_al (bl_al (bl_al (bl0 _) _) _) _) _) _)) hb | exact bl_tr (bl_al (bl_al (bl_al (bl_al (bl_al (bl_al (bl0 _) _) _) _) _) _) _) hb | exact bl_tr (bl_dr (bl_al (bl_al (bl_al (bl_al (bl_al (bl_al (bl0 _) _) _) _) _) _) _)) hb | exact bl_tr (bl_dr (bl0 _)) hb
  replace hA := bl_tr hA hk
  clear hb hk
  go_wp2
  go_ret
  exact ⟨rfl, hA⟩
set_option maxRecDepth 100000 in
set_option maxHeartbeats 16000000 in
theorem ivia_yes (A B : Int) (a : Option Addr) (cap : Nat) (zs : List Int) (X Y S id : Int) (ca : Option Addr) (cc : Nat) (cs : List IC) (p : IC) (w : World) (hs : Stp w) (hr : RowH w a zs) (hz : AllH zs) (hc : zs.length ≤ cap) (hcs : RowC w ca cs) (hsm : zs.length ≤ 260 ∧ cs.length ≤ 60) (h30 : cs.length ≤ 30) (h0 : chkI A B zs.length X Y S id cs = 0) :
    Calls Tryd.prog 5 #[.agg #[.int .i64 A, .int .i64 B, .slice a zs.length cap], .agg #[.int .i64 X, .int .i64 Y, .int .i64 S], .agg #[.int .i64 id, .slice ca cs.length cc, .int .i64 p.1, .int .i64 p.2]] w fun e w' => e = .returned (.bool true) ∧ Below w.heap.size w w' := by
  have hA := bl0 w
  have H1 := Lib.hid (fun w => small13_any A B a zs.length cap id ca cs.length cc p w)
  rw [decide_eq_true hsm.1, decide_eq_true hsm.2] at H1
  have b1 : decide (30 < cs.length) = false := decide_eq_false (by omega)
  have i1 : decide ((30 : Int) < (cs.length : Int)) = false := decide_eq_false (by omega)
  have hl : cs.length ≤ 1048576 := by omega
  have hl30 : (cs.length : Int) ≤ 30 := by omega
  have hzl : (zs.length : Int) ≤ 260 := by omega
  have H2 := Lib.hid (fun w hr hcs hs => of_i A B a cap zs X Y S id ca cc cs w hr hz hc hcs hl hs)
  unfold OfR at H2
  have hT : ofRows A B zs X Y S id cs = tblO A (bxB A B S id) zs cs := by unfold ofRows; rw [if_pos h0]
  have hK : ofCel A B zs.length X Y S id cs = cs := by unfold ofCel; rw [if_pos h0]
  rw [hT, hK, h0] at H2
  have hvf := via_facts (a := a) (cap := cap) (X := X) (Y := Y) hs hr hz h0
  have htl : (tblO A (bxB A B S id) zs cs).length = cs.length := by simp [tblO]
  rw [htl] at H2
  obtain ⟨TB, hTB⟩ : ∃ TB, tblO A (bxB A B S id) zs cs = TB := ⟨_, rfl⟩
  rw [hTB] at H2 hvf
  have VF := Lib.hid hvf
  have HFR0 := Lib.hid (fun (d : IC) w h1 h2 => from_any A B a cap zs d w hz h1 h2)
  unfold WinR at HFR0
  have HZ := Lib.hid hz
  have HTR := Lib.hid (show ∀ (W : World) n ta, (TB = [] ∨ ∃ b gs, ta = some ⟨b, 0, none⟩ ∧ n ≤ b ∧ (∀ g ∈ gs, n ≤ g) ∧ TabH W b cs.length 0 gs TB) → TabR W ta TB from fun W n ta h => by
    rcases h with h | ⟨b, gs, rfl, _, _, h⟩
    · exact .inl h
    · exact h.read hvf.row)
  clear hT hK h0 hsm hc h30 hTB htl hvf hz
  go_enter Tryd.func5, Tryd.ntmps5
  go_wp2_with fail
  refine (H1.out _).mono ?_
  rintro e w1 ⟨rfl, hb⟩
  have hk : Below w.heap.size w w1 := by first | exact hb | exact bl_tr (bl_al (bl0 _) _) hb | exact bl_tr (bl_dr (bl_al (bl0 _) _)) hb | exact bl_tr (bl_al (bl_al (bl0 _) _) _) hb | exact bl_tr (bl_dr (bl_al (bl_al (bl0 _) _) _)) hb | exact bl_tr (bl_al (bl_al (bl_al (bl0 _) _) _) _) hb | exact bl_tr (bl_dr (bl_al (bl_al (bl_al (bl0 _) _) _) _)) hb | exact bl_tr (bl_al (bl_al (bl_al (bl_al (bl0 _) _) _) _) _) hb | exact bl_tr (bl_dr (bl_al (bl_al (bl_al (bl_al (bl0 _) _) _) _) _)) hb | exact bl_tr (bl_al (bl_al (bl_al (bl_al (bl_al (bl0 _) _) _) _) _) _) hb | exact bl_tr (bl_dr (bl_al (bl_al (bl_al (bl_al (bl_al (bl0 _) _) _) _) _) _)) hb | exact bl_tr (bl_al (bl_al (bl_al (bl_al (bl_al (bl_al (bl0 _) _) _) _) _) _) _) hb | exact bl_tr (bl_dr (bl_al (bl_al (bl_al (bl_al (bl_al (bl_al (bl0 _) _) _) _) _) _) _)) hb | exact bl_tr (bl_dr (bl0 _)) hb
  replace hA := bl_tr hA hk
  have f0 := cell_later hb (v := .int .i64 A) (a := ⟨w.heap.size, 0, none⟩) (by simp [go_sem])
  have f1 := cell_later hb (v := .int .i64 B) (a := ⟨w.heap.size, 1, none⟩) (by simp [go_sem])
  have f2 := cell_later hb (v := .slice a zs.length cap) (a := ⟨w.heap.size, 2, none⟩) (by simp [go_sem])
  have p0 := cell_later hb (v := .int .i64 X) (a := ⟨w.heap.size + 1, 0, none⟩) (by simp [go_sem])
  have p1 := cell_later hb (v := .int .i64 Y) (a := ⟨w.heap.size + 1, 1, none⟩) (by simp [go_sem])
  have p2 := cell_later hb (v := .int .i64 S) (a := ⟨w.heap.size + 1, 2, none⟩) (by simp [go_sem])
  have c0 := cell_later hb (v := .int .i64 id) (a := ⟨w.heap.size + 1 + 1, 0, none⟩) (by simp [go_sem])
  have c1 := cell_later hb (v := .slice ca cs.length cc) (a := ⟨w.heap.size + 1 + 1, 1, none⟩) (by simp [go_sem])
  clear hb hk
  have zf0 := blk_lt f0
  have zf1 := blk_lt f1
  have zf2 := blk_lt f2
  have zp0 := blk_lt p0
  have zp1 := blk_lt p1
  have zp2 := blk_lt p2
  have zc0 := blk_lt c0
  have zc1 := blk_lt c1
  go_wp2_with fail
  refine (H2.out _ (hr.below (by first | exact hA | exact (bl_al hA _) | exact (bl_dr (bl_al hA _)) | exact (bl_al (bl_al hA _) _) | exact (bl_dr (bl_al (bl_al hA _) _)) | exact (bl_al (bl_al (bl_al hA _) _) _) | exact (bl_dr (bl_al (bl_al (bl_al hA _) _) _)) | exact (bl_al (bl_al (bl_al (bl_al hA _) _) _) _) | exact (bl_dr (bl_al (bl_al (bl_al (bl_al hA _) _) _) _)) | exact (bl_al (bl_al (bl_al (bl_al (bl_al hA _) _) _) _) _) | exact (bl_dr (bl_al (bl_al (bl_al (bl_al (bl_al hA _) _) _) _) _)) | exact (bl_al (bl_al (bl_al (bl_al (bl_al (bl_al hA _) _) _) _) _) _) | exact (bl_dr (bl_al (bl_al (bl_al (bl_al (bl_al (bl_al hA _) _) _) _) _) _)) | exact (bl_dr hA))) (hcs.below (by first | exact hA | exact (bl_al hA _) | exact (bl_dr (bl_al hA _)) | exact (bl_al (bl_al hA _) _) | exact (bl_dr (bl_al (bl_al hA _) _)) | exact (bl_al (bl_al (bl_al hA _) _) _) | exact (bl_dr (bl_al (bl_al (bl_al hA _) _) _)) | exact (bl_al (bl_al (bl_al (bl_al hA _) _) _) _) | exact (bl_dr (bl_al (bl_al (bl_al (bl_al hA _) _) _) _)) | exact (bl_al (bl_al (bl_al (bl_al (bl_al hA _) _) _) _) _) | exact (bl_dr (bl_al (bl_al (bl_al (bl_al (bl_al hA _) _) _) _) _)) | exact (bl_al (bl_al (bl_al (bl_al (bl_al (bl_al hA _) _) _) _) _) _) | exact (bl_dr (bl_al (bl_al (bl_al (bl_al (bl_al (bl_al hA _) _) _) _) _) _)) | exact (bl_dr hA))) (hs.below (by first | exact hA | exact (bl_al hA _) | exact (bl_dr (bl_al hA _)) | exact (bl_al (bl_al hA _) _) | exact (bl_dr (bl_al (bl_al hA _) _)) | exact (bl_al (bl_al (bl_al hA _) _) _) | exact (bl_dr (bl_al (bl_al (bl_al hA _) _) _)) | exact (bl_al (bl_al (bl_al (bl_al hA _) _) _) _) | exact (bl_dr (bl_al (bl_al (bl_al (bl_al hA _) _) _) _)) | exact (bl_al (bl_al (bl_al (bl_al (bl_al hA _) _) _) _) _) | exact (bl_dr (bl_al (bl_al (bl_al (bl_al (bl_al hA _) _) _) _) _)) | exact (bl_al (bl_al (bl_al (bl_al (bl_al (bl_al hA _) _) _) _) _) _) | exact (bl_dr (bl_al (bl_al (bl_al (bl_al (bl_al (bl_al hA _) _) _) _) _) _)) | exact (bl_dr hA)))).mono ?_
  rintro e w2 ⟨ka, kc, ta, tc, rfl, ho, ht, hb⟩
  have hk : Below w1.heap.size w1 w2 := by first | exact hb | exact bl_tr (bl_al (bl0 _) _) hb | exact bl_tr (bl_dr (bl_al (bl0 _) _)) hb | exact bl_tr (bl_al (bl_al (bl0 _) _) _) hb | exact bl_tr (bl_dr (bl_al (bl_al (bl0 _) _) _)) hb | exact bl_tr (bl_al (bl_al (bl_al (bl0 _) _) _) _) hb | exact bl_tr (bl_dr (bl_al (bl_al (bl_al (bl0 _) _) _) _)) hb | exact bl_tr (bl_al (bl_al (bl_al (bl_al (bl0 _) _) _) _) _) hb | exact bl_tr (bl_dr (bl_al (bl_al (bl_al (bl_al (bl0 _) _) _) _) _)) hb | exact bl_tr (bl_al (bl_al (bl_al (bl_al (bl_al (bl0 _) _) _) _) _) _) hb | exact bl_tr (bl_dr (bl_al (bl_al (bl_al (bl_al (bl_al (bl0 _) _) _) _) _) _)) hb | exact bl_tr (bl_al (bl_al (bl_al (bl_al (bl_al (bl_al (bl0 _) _) _) _) _) _) _) hb | exact bl_tr (bl_dr (bl_al (bl_al (bl_al (bl_al (bl_al (bl_al (bl0 _) _) _) _) _) _) _)) hb | exact bl_tr (bl_dr (bl0 _)) hb
  replace hA := bl_tr hA hk
  replace f0 := cell_later hk f0
  replace f1 := cell_later hk f1
  replace f2 := cell_later hk f2
  replace c0 := cell_later hk c0
  replace c1 := cell_later hk c1
  clear hb hk
  have zf0 := blk_lt f0
  have zf1 := blk_lt f1
  have zf2 := blk_lt f2
  have zc0 := blk_lt c0
  have zc1 := blk_lt c1
  have hta := HTR.out _ _ _ ht
  clear ho ht
  obtain ⟨W3, hW3⟩ : ∃ W3, w2.alloc (.cells #[.slice ka cs.length kc, .slice ta cs.length tc] 54) = W3 := ⟨_, rfl⟩
  have hb23 : Below w2.heap.size w2 W3 := by rw [← hW3]; exact bl_al (bl0 _) _
  have t0 : W3.cell? ⟨w2.heap.size, 0, none⟩ = some (.slice ka cs.length kc) := by rw [← hW3]; simp [go_sem]
  have t1 : W3.cell? ⟨w2.heap.size, 1, none⟩ = some (.slice ta cs.length tc) := by rw [← hW3]; simp [go_sem]
  have hnn : ((cs.length : Int) != (cs.length : Int)) = false := by simp
  have hzz : ((zs.length : Int) != (zs.length : Int)) = false := by simp
  have HW3 := Lib.hid hW3
  clear hW3
  go_upto_region 4 with fail
  rw [HW3.out]
  replace f0 := cell_later hb23 f0; replace f1 := cell_later hb23 f1; replace f2 := cell_later hb23 f2; replace c1 := cell_later hb23 c1
  have hA3 := bl_tr hA hb23
  have HF := Lib.hid (show ∀ W8, Below W3.heap.size W3 W8 → W8.cell? ⟨w.heap.size, 0, none⟩ = some (.int .i64 A) ∧ W8.cell? ⟨w.heap.size, 1, none⟩ = some (.int .i64 B) ∧ W8.cell? ⟨w.heap.size, 2, none⟩ = some (.slice a zs.length cap) ∧ W8.cell? ⟨w.heap.size + 1 + 1, 1, none⟩ = some (.slice ca cs.length cc) ∧ W8.cell? ⟨w2.heap.size, 1, none⟩ = some (.slice ta cs.length tc) from fun W8 h => ⟨cell_later h f0, cell_later h f1, cell_later h f2, cell_later h c1, cell_later h t1⟩)
  have HR := Lib.hid (fun W8 (h : Below W3.heap.size W3 W8) => (hr.below hA3).below h)
  have HC := Lib.hid (fun W8 (h : Below W3.heap.size W3 W8) => (hcs.below hA3).below h)
  have HS := Lib.hid (fun W8 (h : Below W3.heap.size W3 W8) => (hs.below hA3).below h)
  have HTD := Lib.hid (fun W8 (h : Below W3.heap.size W3 W8) => (hta.below hb23).below h)
  have HBW := Lib.hid (fun W8 (h : Below W3.heap.size W3 W8) => bl_tr hA3 h)
  have zc1 := blk_lt c1
  have zt1 := blk_lt t1
  clear hb23 hr hcs hs hta hA hA3 H1 H2 HTR
  go_wp2_with fail
  clear f0 f1 f2 c0 c1 t1 zc1 zt1
  go_loopw [10, 11, 12, 13, 14, 15, 16, 17] (fun iv _ _ _ _ _ _ _ wr => ∃ i : Nat, i ≤ cs.length ∧ iv = .int .i64 i ∧ Below W3.heap.size W3 wr) (fun iv _ _ _ _ _ _ _ _ => cs.length - (intOf iv).toNat)
  case atStart => exact ⟨0, Nat.zero_le _, rfl, bl0 _⟩
  case round =>
    obtain ⟨i, hi, rfl, hBr⟩ := hrel
    have hi0 : (0 : Int) ≤ (i : Int) := by omega
    by_cases hlt : i < cs.length
    · have hlt2 : (i : Int) < (cs.length : Int) := by omega
      have hiT : i < TB.length := by rw [VF.out.len]; exact hlt
      obtain ⟨cb, co, rfl, q0, q1⟩ := (HC.out _ hBr).cell hlt
      obtain ⟨⟨hw1, hw2⟩, hnx, hE0⟩ := VF.out.on cs[i] (List.getElem_mem hlt)
      obtain ⟨hown1, hown2⟩ := VF.out.own i hlt TB[i] (List.getElem?_eq_getElem hiT)
      have hrl := VF.out.row TB[i] (List.getElem_mem hiT)
      have HVL := Lib.hid (show (List.range cs.length).map (viaAt TB[i] TB) = TB[i] from List.ext_getElem (by simp [hrl]) (fun j h1 h2 => by
        have hj : j < cs.length := by simpa using h1
        rw [List.getElem_map, List.getElem_range, VF.out.via i hlt TB[i] (List.getElem?_eq_getElem hiT) j hj, atD_get h2]))
      obtain ⟨d, hd⟩ : ∃ d, cs[i] = d := ⟨_, rfl⟩
      rw [hd] at q0 q1 hw1 hw2 hnx hE0 hown1 hown2
      have HFRM := Lib.hid (fun w h1 h2 => HFR0.out d w h1 h2)
      rw [hE0] at HFRM
      have hdn : numN A cs[i] = numN A d := by rw [hd]
      obtain ⟨ix, hix⟩ : ∃ ix, numN A d = ix := ⟨_, rfl⟩
      rw [hix] at hw2 hnx hown1 hown2
      obtain ⟨fb, fo, rfl, fz⟩ := (HR.out _ hBr).cell hnx
      have hzx : zs[ix] = zs.getD ix 0 := by rw [List.getD_eq_getElem?_getD, List.getElem?_eq_getElem hnx]; rfl
      rw [hzx] at fz
      obtain ⟨z, hzv⟩ : ∃ z, zs.getD ix 0 = z := ⟨_, rfl⟩
      rw [hzv] at fz hown1 hown2
      obtain ⟨tb, tq, sa, sc, rfl, r1, r2⟩ := (HTD.out _ hBr).cell hiT
      rw [hrl] at r1
      obtain ⟨sb, so, rfl, ri⟩ := r2.cell (show i < TB[i].length by rw [hrl]; exact hlt)
      have HRI := Lib.hid r2
      obtain ⟨vi, hvi⟩ : ∃ vi, atD TB[i] i = vi := ⟨_, rfl⟩
      rw [hvi] at ri hown1 hown2
      obtain ⟨f0, f1, f2, c1, t1⟩ := HF.out _ hBr
      have hx0 : (0 : Int) ≤ (ix : Int) := by omega
      have hx1 : (ix : Int) < (zs.length : Int) := by omega
      have hx2 : decide ((ix : Int) < 0) = false := decide_eq_false (by omega)
      have hx3 : decide ((zs.length : Int) ≤ (ix : Int)) = false := decide_eq_false (by omega)
      have hx4 : decide (zs.length ≤ ix) = false := decide_eq_false (by omega)
      have HVQ := Lib.hid (fun w (h1 : RowU w (some ⟨sb, so, none⟩) TB[i]) (h2 : TabR w (some ⟨tb, tq, none⟩) TB) => via_q (some ⟨sb, so, none⟩) (some ⟨tb, tq, none⟩) sc tc cs.length TB[i] TB w hrl VF.out.len (by omega) hl VF.out.row h1 h2 (VF.out.u TB[i] (List.getElem_mem hiT)) VF.out.u)
      have HRL := Lib.hid hrl
      have zf0 := blk_lt f0
      have zc1 := blk_lt c1
      have zt1 := blk_lt t1
      have zr1 := blk_lt r1
      clear hd hix hzx hzv hvi r2 hrl hE0
      go_upto_region 14 with fail
      have hD := bl_dr (bl0 wr)
      refine (wpIn_wide (n := 11)).1 ?_
      refine ordS_begin (S := (fun W9 : World => W9.cell? ⟨w.heap.size + 1 + 1, 1, none⟩ = some (.slice (some ⟨cb, co, none⟩) cs.length cc) ∧ W9.cell? ⟨cb, co + i * 2, none⟩ = some (.int .i64 d.1) ∧ W9.cell? ⟨cb, co + i * 2 + 1, none⟩ = some (.int .i64 d.2) ∧ W9.cell? ⟨w.heap.size, 0, none⟩ = some (.int .i64 A))) (by kernel_rfl) ⟨cell_later hD c1, cell_later hD q0, cell_later hD q1, cell_later hD f0⟩ (fun hH => ?_)
      refine' ordS_take (i := 0) (oi := { dst := some 80, op := Op.fieldAddr 50 (Operand.tmp 5) 1, type := 0, pos := _, after := #[], guard := none }) (v := _) rfl (by kernel_rfl) (by kernel_rfl) (by kernel_rfl) (by kernel_rfl) (fun _ _ _ h => h) (by assumption) (Or.inl ⟨by rfl, ?hy506⟩) (fun _ => rfl) ?rest506
      case hy506 => (intro w hSw; (try dsimp only at hSw); go_simp; try with_reducible rfl)
      try simp only [Act.put, List.setIfInBounds_toArray, List.set_cons_zero, List.set_cons_succ]
      refine' ordS_take (i := 1) (oi := { dst := some 81, op := Op.load 35 (Operand.tmp 80), type := 35, pos := _, after := #[{ on := 0, ground := Ground.data }], guard := none }) (v := _) rfl (by kernel_rfl) (by kernel_rfl) (by kernel_rfl) (by kernel_rfl) (fun _ _ _ h => h) (by assumption) (Or.inl ⟨by rfl, ?hy507⟩) (fun _ => rfl) ?rest507
      case hy507 => (intro w hSw; (try dsimp only at hSw); go_simp; try with_reducible rfl)
      try simp only [Act.put, List.setIfInBounds_toArray, List.set_cons_zero, List.set_cons_succ]
      refine' ordS_take (i := 2) (oi := { dst := some 82, op := Op.move (Operand.tmp 10), type := 3, pos := _, after := #[], guard := none }) (v := _) rfl (by kernel_rfl) (by kernel_rfl) (by kernel_rfl) (by kernel_rfl) (fun _ _ _ h => h) (by assumption) (Or.inl ⟨by rfl, ?hy508⟩) (fun _ => rfl) ?rest508
      case hy508 => (intro w hSw; (try dsimp only at hSw); go_simp; try with_reducible rfl)
      try simp only [Act.put, List.setIfInBounds_toArray, List.set_cons_zero, List.set_cons_succ]
      refine' ordS_take (i := 3) (oi := { dst := some 83, op := Op.indexAddr 35 (Operand.tmp 81) (Operand.tmp 82), type := 0, pos := _, after := #[{ on := 1, ground := Ground.data }, { on := 2, ground := Ground.data }], guard := none }) (v := _) rfl (by kernel_rfl) (by kernel_rfl) (by kernel_rfl) (by kernel_rfl) (fun _ _ _ h => h) (by assumption) (Or.inl ⟨by rfl, ?hy509⟩) (fun _ => rfl) ?rest509
      case hy509 => (intro w hSw; (try dsimp only at hSw); go_simp; try with_reducible rfl)
      try simp only [Act.put, List.setIfInBounds_toArray, List.set_cons_zero, List.set_cons_succ]
      refine' ordS_take (i := 4) (oi := { dst := some 84, op := Op.fieldAddr 30 (Operand.tmp 83) 1, type := 0, pos := _, after := #[{ on := 3, ground := Ground.data }], guard := none }) (v := _) rfl (by kernel_rfl) (by kernel_rfl) (by kernel_rfl) (by kernel_rfl) (fun _ _ _ h => h) (by assumption) (Or.inl ⟨by rfl, ?hy510⟩) (fun _ => rfl) ?rest510
      case hy510 => (intro w hSw; (try dsimp only at hSw); go_simp; try with_reducible rfl)
      try simp only [Act.put, List.setIfInBounds_toArray, List.set_cons_zero, List.set_cons_succ]
      refine' ordS_take (i := 5) (oi := { dst := some 85, op := Op.load 3 (Operand.tmp 84), type := 3, pos := _, after := #[{ on := 4, ground := Ground.data }], guard := none }) (v := _) rfl (by kernel_rfl) (by kernel_rfl) (by kernel_rfl) (by kernel_rfl) (fun _ _ _ h => h) (by assumption) (Or.inl ⟨by rfl, ?hy511⟩) (fun _ => rfl) ?rest511
      case hy511 => (intro w hSw; (try dsimp only at hSw); go_simp; try with_reducible rfl)
      try simp only [Act.put, List.setIfInBounds_toArray, List.set_cons_zero, List.set_cons_succ]
      refine' ordS_take (i := 6) (oi := { dst := some 86, op := Op.fieldAddr 26 (Operand.tmp 3) 0, type := 0, pos := _, after := #[], guard := none }) (v := _) rfl (by kernel_rfl) (by kernel_rfl) (by kernel_rfl) (by kernel_rfl) (fun _ _ _ h => h) (by assumption) (Or.inl ⟨by rfl, ?hy512⟩) (fun _ => rfl) ?rest512
      case hy512 => (intro w hSw; (try dsimp only at hSw); go_simp; try with_reducible rfl)
      try simp only [Act.put, List.setIfInBounds_toArray, List.set_cons_zero, List.set_cons_succ]
      refine' ordS_take (i := 7) (oi := { dst := some 87, op := Op.fieldAddr 23 (Operand.tmp 86) 0, type := 0, pos := _, after := #[{ on := 6, ground := Ground.data }], guard := none }) (v := _) rfl (by kernel_rfl) (by kernel_rfl) (by kernel_rfl) (by kernel_rfl) (fun _ _ _ h => h) (by assumption) (Or.inl ⟨by rfl, ?hy513⟩) (fun _ => rfl) ?rest513
      case hy513 => (intro w hSw; (try dsimp only at hSw); go_simp; try with_reducible rfl)
      try simp only [Act.put, List.setIfInBounds_toArray, List.set_cons_zero, List.set_cons_succ]
      refine' ordS_take (i := 8) (oi := { dst := some 88, op := Op.load 3 (Operand.tmp 87), type := 3, pos := _, after := #[{ on := 7, ground := Ground.data }], guard := none }) (v := _) rfl (by kernel_rfl) (by kernel_rfl) (by kernel_rfl) (by kernel_rfl) (fun _ _ _ h => h) (by assumption) (Or.inl ⟨by rfl, ?hy514⟩) (fun _ => rfl) ?rest514
      case hy514 => (intro w hSw; (try dsimp only at hSw); go_simp; try with_reducible rfl)
      try simp only [Act.put, List.setIfInBounds_toArray, List.set_cons_zero, List.set_cons_succ]
      refine' ordS_take (i := 9) (oi := { dst := some 89, op := Op.binOp BinOp.mul 3 (Operand.tmp 85) (Operand.tmp 88) 3, type := 3, pos := _, after := #[{ on := 5, ground := Ground.data }, { on := 8, ground := Ground.data }], guard := none }) (v := _) rfl (by kernel_rfl) (by kernel_rfl) (by kernel_rfl) (by kernel_rfl) (fun _ _ _ h => h) (by assumption) (Or.inl ⟨by rfl, ?hy515⟩) (fun _ => rfl) ?rest515
      case hy515 => (intro w hSw; (try dsimp only at hSw); go_simp; try with_reducible rfl)
      try simp only [Act.put, List.setIfInBounds_toArray, List.set_cons_zero, List.set_cons_succ]
      refine' ordS_take (i := 10) (oi := { dst := some 90, op := Op.fieldAddr 50 (Operand.tmp 5) 1, type := 0, pos := _, after := #[], guard := none }) (v := _) rfl (by kernel_rfl) (by kernel_rfl) (by kernel_rfl) (by kernel_rfl) (fun _ _ _ h => h) (by assumption) (Or.inl ⟨by rfl, ?hy516⟩) (fun _ => rfl) ?rest516
      case hy516 => (intro w hSw; (try dsimp only at hSw); go_simp; try with_reducible rfl)
      try simp only [Act.put, List.setIfInBounds_toArray, List.set_cons_zero, List.set_cons_succ]
      refine' ordS_take (i := 11) (oi := { dst := some 91, op := Op.load 35 (Operand.tmp 90), type := 35, pos := _, after := #[{ on := 10, ground := Ground.data }], guard := none }) (v := _) rfl (by kernel_rfl) (by kernel_rfl) (by kernel_rfl) (by kernel_rfl) (fun _ _ _ h => h) (by assumption) (Or.inl ⟨by rfl, ?hy517⟩) (fun _ => rfl) ?rest517
      case hy517 => (intro w hSw; (try dsimp only at hSw); go_simp; try with_reducible rfl)
      try simp only [Act.put, List.setIfInBounds_toArray, List.set_cons_zero, List.set_cons_succ]
      refine' ordS_take (i := 12) (oi := { dst := some 92, op := Op.move (Operand.tmp 10), type := 3, pos := _, after := #[], guard := none }) (v := _) rfl (by kernel_rfl) (by kernel_rfl) (by kernel_rfl) (by kernel_rfl) (fun _ _ _ h => h) (by assumption) (Or.inl ⟨by rfl, ?hy518⟩) (fun _ => rfl) ?rest518
      case hy518 => (intro w hSw; (try dsimp only at hSw); go_simp; try with_reducible rfl)
      try simp only [Act.put, List.setIfInBounds_toArray, List.set_cons_zero, List.set_cons_succ]
      refine' ordS_take (i := 13) (oi := { dst := some 93, op := Op.indexAddr 35 (Operand.tmp 91) (Operand.tmp 92), type := 0, pos := _, after := #[{ on := 11, ground := Ground.data }, { on := 12, ground := Ground.data }], guard := none }) (v := _) rfl (by kernel_rfl) (by kernel_rfl) (by kernel_rfl) (by kernel_rfl) (fun _ _ _ h => h) (by assumption) (Or.inl ⟨by rfl, ?hy519⟩) (fun _ => rfl) ?rest519
      case hy519 => (intro w hSw; (try dsimp only at hSw); go_simp; try with_reducible rfl)
      try simp only [Act.put, List.setIfInBounds_toArray, List.set_cons_zero, List.set_cons_succ]
      refine' ordS_take (i := 14) (oi := { dst := some 94, op := Op.fieldAddr 30 (Operand.tmp 93) 0, type := 0, pos := _, after := #[{ on := 13, ground := Ground.data }], guard := none }) (v := _) rfl (by kernel_rfl) (by kernel_rfl) (by kernel_rfl) (by kernel_rfl) (fun _ _ _ h => h) (by assumption) (Or.inl ⟨by rfl, ?hy520⟩) (fun _ => rfl) ?rest520
      case hy520 => (intro w hSw; (try dsimp only at hSw); go_simp; try with_reducible rfl)
      try simp only [Act.put, List.setIfInBounds_toArray, List.set_cons_zero, List.set_cons_succ]
      refine' ordS_take (i := 15) (oi := { dst := some 95, op := Op.load 3 (Operand.tmp 94), type := 3, pos := _, after := #[{ on := 14, ground := Ground.data }], guard := none }) (v := _) rfl (by kernel_rfl) (by kernel_rfl) (by kernel_rfl) (by kernel_rfl) (fun _ _ _ h => h) (by assumption) (Or.inl ⟨by rfl, ?hy521⟩) (fun _ => rfl) ?rest521
      case hy521 => (intro w hSw; (try dsimp only at hSw); go_simp; try with_reducible rfl)
      try simp only [Act.put, List.setIfInBounds_toArray, List.set_cons_zero, List.set_cons_succ]
      refine' ordS_take (i := 16) (oi := { dst := some 96, op := Op.binOp BinOp.add 3 (Operand.tmp 89) (Operand.tmp 95) 3, type := 3, pos := _, after := #[{ on := 9, ground := Ground.data }, { on := 15, ground := Ground.data }], guard := none }) (v := _) rfl (by kernel_rfl) (by kernel_rfl) (by kernel_rfl) (by kernel_rfl) (fun _ _ _ h => h) (by assumption) (Or.inl ⟨by rfl, ?hy522⟩) (fun _ => rfl) ?rest522
      case hy522 => (intro w hSw; (try dsimp only at hSw); go_simp; try with_reducible rfl)
      try simp only [Act.put, List.setIfInBounds_toArray, List.set_cons_zero, List.set_cons_succ]
      refine' ordS_take (i := 17) (oi := { dst := some 11, op := Op.assign (Operand.tmp 96), type := 3, pos := _, after := #[{ on := 16, ground := Ground.data }, { on := 0, ground := Ground.phase }, { on := 1, ground := Ground.phase }, { on := 2, ground := Ground.phase }, { on := 3, ground := Ground.phase }, { on := 4, ground := Ground.phase }, { on := 5, ground := Ground.phase }, { on := 6, ground := Ground.phase }, { on := 7, ground := Ground.phase }, { on := 8, ground := Ground.phase }, { on := 9, ground := Ground.phase }, { on := 10, ground := Ground.phase }, { on := 11, ground := Ground.phase }, { on := 12, ground := Ground.phase }, { on := 13, ground := Ground.phase }, { on := 14, ground := Ground.phase }, { on := 15, ground := Ground.phase }, { on := 16, ground := Ground.phase }], guard := none }) (v := _) rfl (by kernel_rfl) (by kernel_rfl) (by kernel_rfl) (by kernel_rfl) (fun _ _ _ h => h) (by assumption) (Or.inl ⟨by rfl, ?hy523⟩) (fun _ => rfl) ?rest523
      case hy523 => (intro w hSw; (try dsimp only at hSw); go_simp; try with_reducible rfl)
      try simp only [Act.put, List.setIfInBounds_toArray, List.set_cons_zero, List.set_cons_succ]
      refine ordS_done (by kernel_rfl) ?_
      obtain ⟨X1, hX1⟩ : ∃ X1, wr.drew = X1 := ⟨_, rfl⟩
      rw [hX1] at hD
      rw [hX1]
      clear hX1
      clear hH
      replace f0 := cell_later hD f0; replace f1 := cell_later hD f1; replace f2 := cell_later hD f2; replace c1 := cell_later hD c1; replace t1 := cell_later hD t1
      replace q0 := cell_later hD q0; replace q1 := cell_later hD q1; replace fz := cell_later hD fz; replace r1 := cell_later hD r1; replace ri := cell_later hD ri
      have hBX1 := bl_tr hBr hD
      have HDX := Lib.hid hD
      clear hD zf0 zc1 zt1 zr1
      go_upto_region 15 with fail
      go_cut [142] from 97 to 141 (fun s wx => s = .bool false ∧ Below X1.heap.size X1 wx)
      case first =>
        by_cases hz0 : z = 0
        · subst hz0
          have hv := hown1 rfl
          subst hv
          clear hown1 hown2
          have hD := bl_dr (bl0 X1)
          refine (wpIn_wide (n := 11)).1 ?_
          refine ordS_begin (S := (fun W9 : World => W9.cell? ⟨w.heap.size, 2, none⟩ = some (.slice (some ⟨fb, fo, none⟩) zs.length cap) ∧ W9.cell? ⟨fb, fo + ix, none⟩ = some (.int .u16 0) ∧ W9.cell? ⟨w2.heap.size, 1, none⟩ = some (.slice (some ⟨tb, tq, none⟩) cs.length tc) ∧ W9.cell? ⟨tb, tq + i, none⟩ = some (.slice (some ⟨sb, so, none⟩) cs.length sc) ∧ W9.cell? ⟨sb, so + i, none⟩ = some (.int .u64 18446744073709551615))) (by kernel_rfl) ⟨cell_later hD f2, cell_later hD fz, cell_later hD t1, cell_later hD r1, cell_later hD ri⟩ (fun hH => ?_)
          refine' ordS_take (i := 0) (oi := { dst := some 97, op := Op.move (Operand.tmp 11), type := 3, pos := _, after := #[], guard := none }) (v := _) rfl (by kernel_rfl) (by kernel_rfl) (by kernel_rfl) (by kernel_rfl) (fun _ _ _ h => h) (by assumption) (Or.inl ⟨by rfl, ?hy524⟩) (fun _ => rfl) ?rest524
          case hy524 => (intro w hSw; (try dsimp only at hSw); go_simp; try with_reducible rfl)
          try simp only [Act.put, List.setIfInBounds_toArray, List.set_cons_zero, List.set_cons_succ]
          refine' ordS_take (i := 1) (oi := { dst := some 98, op := Op.binOp BinOp.lss 3 (Operand.tmp 97) (Operand.const (Value.int IntKind.i64 0)) 3, type := 4, pos := _, after := #[{ on := 0, ground := Ground.data }], guard := none }) (v := _) rfl (by kernel_rfl) (by kernel_rfl) (by kernel_rfl) (by kernel_rfl) (fun _ _ _ h => h) (by assumption) (Or.inl ⟨by rfl, ?hy525⟩) (fun _ => rfl) ?rest525
          case hy525 => (intro w hSw; (try dsimp only at hSw); go_simp; try with_reducible rfl)
          try simp only [Act.put, List.setIfInBounds_toArray, List.set_cons_zero, List.set_cons_succ]
          refine' ordS_take (i := 2) (oi := { dst := some 99, op := Op.move (Operand.tmp 98), type := 4, pos := _, after := #[{ on := 1, ground := Ground.data }], guard := none }) (v := _) rfl (by kernel_rfl) (by kernel_rfl) (by kernel_rfl) (by kernel_rfl) (fun _ _ _ h => h) (by assumption) (Or.inl ⟨by rfl, ?hy526⟩) (fun _ => rfl) ?rest526
          case hy526 => (intro w hSw; (try dsimp only at hSw); go_simp; try with_reducible rfl)
          try simp only [Act.put, List.setIfInBounds_toArray, List.set_cons_zero, List.set_cons_succ]
          refine' ordS_take (i := 3) (oi := { dst := some 100, op := Op.move (Operand.tmp 11), type := 3, pos := _, after := #[{ on := 2, ground := Ground.guard }], guard := some (2, false) }) (v := _) rfl (by kernel_rfl) (by kernel_rfl) (by kernel_rfl) (by kernel_rfl) (fun _ _ _ h => h) (by assumption) (Or.inl ⟨by rfl, ?hy527⟩) (fun _ => rfl) ?rest527
          case hy527 => (intro w hSw; (try dsimp only at hSw); go_simp; try with_reducible rfl)
          try simp only [Act.put, List.setIfInBounds_toArray, List.set_cons_zero, List.set_cons_succ]
          refine' ordS_take (i := 4) (oi := { dst := some 101, op := Op.fieldAddr 26 (Operand.tmp 3) 1, type := 0, pos := _, after := #[{ on := 2, ground := Ground.guard }], guard := some (2, false) }) (v := _) rfl (by kernel_rfl) (by kernel_rfl) (by kernel_rfl) (by kernel_rfl) (fun _ _ _ h => h) (by assumption) (Or.inl ⟨by rfl, ?hy528⟩) (fun _ => rfl) ?rest528
          case hy528 => (intro w hSw; (try dsimp only at hSw); go_simp; try with_reducible rfl)
          try simp only [Act.put, List.setIfInBounds_toArray, List.set_cons_zero, List.set_cons_succ]
          refine' ordS_take (i := 5) (oi := { dst := some 102, op := Op.load 24 (Operand.tmp 101), type := 24, pos := _, after := #[{ on := 4, ground := Ground.data }, { on := 2, ground := Ground.guard }], guard := some (2, false) }) (v := _) rfl (by kernel_rfl) (by kernel_rfl) (by kernel_rfl) (by kernel_rfl) (fun _ _ _ h => h) (by assumption) (Or.inl ⟨by rfl, ?hy529⟩) (fun _ => rfl) ?rest529
          case hy529 => (intro w hSw; (try dsimp only at hSw); go_simp; try with_reducible rfl)
          try simp only [Act.put, List.setIfInBounds_toArray, List.set_cons_zero, List.set_cons_succ]
          refine' ordS_take (i := 6) (oi := { dst := some 103, op := Op.call { callee := Callee.builtin Builtin.len, args := #[Operand.tmp 102], argTypes := #[24] }, type := 3, pos := _, after := #[{ on := 5, ground := Ground.data }, { on := 2, ground := Ground.guard }], guard := some (2, false) }) (v := _) rfl (by kernel_rfl) (by kernel_rfl) (by kernel_rfl) (by kernel_rfl) (fun _ _ _ h => h) (by assumption) (Or.inl ⟨by rfl, ?hy530⟩) (fun _ => rfl) ?rest530
          case hy530 => (intro w hSw; (try dsimp only at hSw); go_simp; try with_reducible rfl)
          try simp only [Act.put, List.setIfInBounds_toArray, List.set_cons_zero, List.set_cons_succ]
          refine' ordS_take (i := 7) (oi := { dst := some 104, op := Op.binOp BinOp.geq 3 (Operand.tmp 100) (Operand.tmp 103) 3, type := 4, pos := _, after := #[{ on := 3, ground := Ground.data }, { on := 6, ground := Ground.data }, { on := 2, ground := Ground.guard }], guard := some (2, false) }) (v := _) rfl (by kernel_rfl) (by kernel_rfl) (by kernel_rfl) (by kernel_rfl) (fun _ _ _ h => h) (by assumption) (Or.inl ⟨by rfl, ?hy531⟩) (fun _ => rfl) ?rest531
          case hy531 => (intro w hSw; (try dsimp only at hSw); go_simp; try with_reducible rfl)
          try simp only [Act.put, List.setIfInBounds_toArray, List.set_cons_zero, List.set_cons_succ]
          refine' ordS_take (i := 8) (oi := { dst := some 105, op := Op.pick (Operand.tmp 99) (Operand.const (Value.bool true)) (Operand.tmp 104), type := 4, pos := _, after := #[{ on := 2, ground := Ground.data }, { on := 7, ground := Ground.data }], guard := none }) (v := _) rfl (by kernel_rfl) (by kernel_rfl) (by kernel_rfl) (by kernel_rfl) (fun _ _ _ h => h) (by assumption) (Or.inl ⟨by rfl, ?hy532⟩) (fun _ => rfl) ?rest532
          case hy532 => (intro w hSw; (try dsimp only at hSw); go_simp; try with_reducible rfl)
          try simp only [Act.put, List.setIfInBounds_toArray, List.set_cons_zero, List.set_cons_succ]
          refine' ordS_take (i := 9) (oi := { dst := some 106, op := Op.move (Operand.tmp 105), type := 4, pos := _, after := #[{ on := 8, ground := Ground.data }, { on := 2, ground := Ground.chain }], guard := none }) (v := _) rfl (by kernel_rfl) (by kernel_rfl) (by kernel_rfl) (by kernel_rfl) (fun _ _ _ h => h) (by assumption) (Or.inl ⟨by rfl, ?hy533⟩) (fun _ => rfl) ?rest533
          case hy533 => (intro w hSw; (try dsimp only at hSw); go_simp; try with_reducible rfl)
          try simp only [Act.put, List.setIfInBounds_toArray, List.set_cons_zero, List.set_cons_succ]
          refine' ordS_take (i := 10) (oi := { dst := some 107, op := Op.fieldAddr 54 (Operand.tmp 7) 1, type := 0, pos := _, after := #[{ on := 9, ground := Ground.guard }], guard := some (9, false) }) (v := _) rfl (by kernel_rfl) (by kernel_rfl) (by kernel_rfl) (by kernel_rfl) (fun _ _ _ h => h) (by assumption) (Or.inl ⟨by rfl, ?hy534⟩) (fun _ => rfl) ?rest534
          case hy534 => (intro w hSw; (try dsimp only at hSw); go_simp; try with_reducible rfl)
          try simp only [Act.put, List.setIfInBounds_toArray, List.set_cons_zero, List.set_cons_succ]
          refine' ordS_take (i := 11) (oi := { dst := some 108, op := Op.load 52 (Operand.tmp 107), type := 52, pos := _, after := #[{ on := 10, ground := Ground.data }, { on := 9, ground := Ground.guard }], guard := some (9, false) }) (v := _) rfl (by kernel_rfl) (by kernel_rfl) (by kernel_rfl) (by kernel_rfl) (fun _ _ _ h => h) (by assumption) (Or.inl ⟨by rfl, ?hy535⟩) (fun _ => rfl) ?rest535
          case hy535 => (intro w hSw; (try dsimp only at hSw); go_simp; try with_reducible rfl)
          try simp only [Act.put, List.setIfInBounds_toArray, List.set_cons_zero, List.set_cons_succ]
          refine' ordS_take (i := 12) (oi := { dst := some 109, op := Op.move (Operand.tmp 10), type := 3, pos := _, after := #[{ on := 9, ground := Ground.guard }], guard := some (9, false) }) (v := _) rfl (by kernel_rfl) (by kernel_rfl) (by kernel_rfl) (by kernel_rfl) (fun _ _ _ h => h) (by assumption) (Or.inl ⟨by rfl, ?hy536⟩) (fun _ => rfl) ?rest536
          case hy536 => (intro w hSw; (try dsimp only at hSw); go_simp; try with_reducible rfl)
          try simp only [Act.put, List.setIfInBounds_toArray, List.set_cons_zero, List.set_cons_succ]
          refine' ordS_take (i := 13) (oi := { dst := some 110, op := Op.indexAddr 52 (Operand.tmp 108) (Operand.tmp 109), type := 0, pos := _, after := #[{ on := 11, ground := Ground.data }, { on := 12, ground := Ground.data }, { on := 9, ground := Ground.guard }], guard := some (9, false) }) (v := _) rfl (by kernel_rfl) (by kernel_rfl) (by kernel_rfl) (by kernel_rfl) (fun _ _ _ h => h) (by assumption) (Or.inl ⟨by rfl, ?hy537⟩) (fun _ => rfl) ?rest537
          case hy537 => (intro w hSw; (try dsimp only at hSw); go_simp; try with_reducible rfl)
          try simp only [Act.put, List.setIfInBounds_toArray, List.set_cons_zero, List.set_cons_succ]
          refine' ordS_take (i := 14) (oi := { dst := some 111, op := Op.load 42 (Operand.tmp 110), type := 42, pos := _, after := #[{ on := 13, ground := Ground.data }, { on := 9, ground := Ground.guard }], guard := some (9, false) }) (v := _) rfl (by kernel_rfl) (by kernel_rfl) (by kernel_rfl) (by kernel_rfl) (fun _ _ _ h => h) (by assumption) (Or.inl ⟨by rfl, ?hy538⟩) (fun _ => rfl) ?rest538
          case hy538 => (intro w hSw; (try dsimp only at hSw); go_simp; try with_reducible rfl)
          try simp only [Act.put, List.setIfInBounds_toArray, List.set_cons_zero, List.set_cons_succ]
          refine' ordS_take (i := 15) (oi := { dst := some 112, op := Op.move (Operand.tmp 10), type := 3, pos := _, after := #[{ on := 9, ground := Ground.guard }], guard := some (9, false) }) (v := _) rfl (by kernel_rfl) (by kernel_rfl) (by kernel_rfl) (by kernel_rfl) (fun _ _ _ h => h) (by assumption) (Or.inl ⟨by rfl, ?hy539⟩) (fun _ => rfl) ?rest539
          case hy539 => (intro w hSw; (try dsimp only at hSw); go_simp; try with_reducible rfl)
          try simp only [Act.put, List.setIfInBounds_toArray, List.set_cons_zero, List.set_cons_succ]
          refine' ordS_take (i := 16) (oi := { dst := some 113, op := Op.indexAddr 42 (Operand.tmp 111) (Operand.tmp 112), type := 0, pos := _, after := #[{ on := 14, ground := Ground.data }, { on := 15, ground := Ground.data }, { on := 9, ground := Ground.guard }], guard := some (9, false) }) (v := _) rfl (by kernel_rfl) (by kernel_rfl) (by kernel_rfl) (by kernel_rfl) (fun _ _ _ h => h) (by assumption) (Or.inl ⟨by rfl, ?hy540⟩) (fun _ => rfl) ?rest540
          case hy540 => (intro w hSw; (try dsimp only at hSw); go_simp; try with_reducible rfl)
          try simp only [Act.put, List.setIfInBounds_toArray, List.set_cons_zero, List.set_cons_succ]
          refine' ordS_take (i := 17) (oi := { dst := some 114, op := Op.load 36 (Operand.tmp 113), type := 36, pos := _, after := #[{ on := 16, ground := Ground.data }, { on := 9, ground := Ground.guard }], guard := some (9, false) }) (v := _) rfl (by kernel_rfl) (by kernel_rfl) (by kernel_rfl) (by kernel_rfl) (fun _ _ _ h => h) (by assumption) (Or.inl ⟨by rfl, ?hy541⟩) (fun _ => rfl) ?rest541
          case hy541 => (intro w hSw; (try dsimp only at hSw); go_simp; try with_reducible rfl)
          try simp only [Act.put, List.setIfInBounds_toArray, List.set_cons_zero, List.set_cons_succ]
          refine' ordS_take (i := 18) (oi := { dst := some 115, op := Op.binOp BinOp.eql 36 (Operand.tmp 114) (Operand.const (Value.int IntKind.u64 0)) 36, type := 4, pos := _, after := #[{ on := 17, ground := Ground.data }, { on := 9, ground := Ground.guard }], guard := some (9, false) }) (v := _) rfl (by kernel_rfl) (by kernel_rfl) (by kernel_rfl) (by kernel_rfl) (fun _ _ _ h => h) (by assumption) (Or.inl ⟨by rfl, ?hy542⟩) (fun _ => rfl) ?rest542
          case hy542 => (intro w hSw; (try dsimp only at hSw); go_simp; try with_reducible rfl)
          try simp only [Act.put, List.setIfInBounds_toArray, List.set_cons_zero, List.set_cons_succ]
          refine' ordS_take (i := 19) (oi := { dst := some 116, op := Op.fieldAddr 26 (Operand.tmp 3) 1, type := 0, pos := _, after := #[{ on := 9, ground := Ground.guard }], guard := some (9, false) }) (v := _) rfl (by kernel_rfl) (by kernel_rfl) (by kernel_rfl) (by kernel_rfl) (fun _ _ _ h => h) (by assumption) (Or.inl ⟨by rfl, ?hy543⟩) (fun _ => rfl) ?rest543
          case hy543 => (intro w hSw; (try dsimp only at hSw); go_simp; try with_reducible rfl)
          try simp only [Act.put, List.setIfInBounds_toArray, List.set_cons_zero, List.set_cons_succ]
          refine' ordS_take (i := 20) (oi := { dst := some 117, op := Op.load 24 (Operand.tmp 116), type := 24, pos := _, after := #[{ on := 19, ground := Ground.data }, { on := 9, ground := Ground.guard }], guard := some (9, false) }) (v := _) rfl (by kernel_rfl) (by kernel_rfl) (by kernel_rfl) (by kernel_rfl) (fun _ _ _ h => h) (by assumption) (Or.inl ⟨by rfl, ?hy544⟩) (fun _ => rfl) ?rest544
          case hy544 => (intro w hSw; (try dsimp only at hSw); go_simp; try with_reducible rfl)
          try simp only [Act.put, List.setIfInBounds_toArray, List.set_cons_zero, List.set_cons_succ]
          refine' ordS_take (i := 21) (oi := { dst := some 118, op := Op.move (Operand.tmp 11), type := 3, pos := _, after := #[{ on := 9, ground := Ground.guard }], guard := some (9, false) }) (v := _) rfl (by kernel_rfl) (by kernel_rfl) (by kernel_rfl) (by kernel_rfl) (fun _ _ _ h => h) (by assumption) (Or.inl ⟨by rfl, ?hy545⟩) (fun _ => rfl) ?rest545
          case hy545 => (intro w hSw; (try dsimp only at hSw); go_simp; try with_reducible rfl)
          try simp only [Act.put, List.setIfInBounds_toArray, List.set_cons_zero, List.set_cons_succ]
          refine' ordS_take (i := 22) (oi := { dst := some 119, op := Op.indexAddr 24 (Operand.tmp 117) (Operand.tmp 118), type := 0, pos := _, after := #[{ on := 20, ground := Ground.data }, { on := 21, ground := Ground.data }, { on := 9, ground := Ground.guard }], guard := some (9, false) }) (v := _) rfl (by kernel_rfl) (by kernel_rfl) (by kernel_rfl) (by kernel_rfl) (fun _ _ _ h => h) (by assumption) (Or.inl ⟨by rfl, ?hy546⟩) (fun _ => rfl) ?rest546
          case hy546 => (intro w hSw; (try dsimp only at hSw); go_simp; try with_reducible rfl)
          try simp only [Act.put, List.setIfInBounds_toArray, List.set_cons_zero, List.set_cons_succ]
          refine' ordS_take (i := 23) (oi := { dst := some 120, op := Op.load 64 (Operand.tmp 119), type := 64, pos := _, after := #[{ on := 22, ground := Ground.data }, { on := 9, ground := Ground.guard }], guard := some (9, false) }) (v := _) rfl (by kernel_rfl) (by kernel_rfl) (by kernel_rfl) (by kernel_rfl) (fun _ _ _ h => h) (by assumption) (Or.inl ⟨by rfl, ?hy547⟩) (fun _ => rfl) ?rest547
          case hy547 => (intro w hSw; (try dsimp only at hSw); go_simp; try with_reducible rfl)
          try simp only [Act.put, List.setIfInBounds_toArray, List.set_cons_zero, List.set_cons_succ]
          refine' ordS_take (i := 24) (oi := { dst := some 121, op := Op.binOp BinOp.neq 64 (Operand.tmp 120) (Operand.const (Value.int IntKind.u16 0)) 64, type := 4, pos := _, after := #[{ on := 23, ground := Ground.data }, { on := 9, ground := Ground.guard }], guard := some (9, false) }) (v := _) rfl (by kernel_rfl) (by kernel_rfl) (by kernel_rfl) (by kernel_rfl) (fun _ _ _ h => h) (by assumption) (Or.inl ⟨by rfl, ?hy548⟩) (fun _ => rfl) ?rest548
          case hy548 => (intro w hSw; (try dsimp only at hSw); go_simp; try with_reducible rfl)
          try simp only [Act.put, List.setIfInBounds_toArray, List.set_cons_zero, List.set_cons_succ]
          refine' ordS_take (i := 25) (oi := { dst := some 122, op := Op.binOp BinOp.neq 4 (Operand.tmp 115) (Operand.tmp 121) 4, type := 4, pos := _, after := #[{ on := 18, ground := Ground.data }, { on := 24, ground := Ground.data }, { on := 9, ground := Ground.guard }], guard := some (9, false) }) (v := _) rfl (by kernel_rfl) (by kernel_rfl) (by kernel_rfl) (by kernel_rfl) (fun _ _ _ h => h) (by assumption) (Or.inl ⟨by rfl, ?hy549⟩) (fun _ => rfl) ?rest549
          case hy549 => (intro w hSw; (try dsimp only at hSw); go_simp; try with_reducible rfl)
          try simp only [Act.put, List.setIfInBounds_toArray, List.set_cons_zero, List.set_cons_succ]
          refine' ordS_take (i := 26) (oi := { dst := some 123, op := Op.pick (Operand.tmp 106) (Operand.const (Value.bool true)) (Operand.tmp 122), type := 4, pos := _, after := #[{ on := 9, ground := Ground.data }, { on := 25, ground := Ground.data }], guard := none }) (v := _) rfl (by kernel_rfl) (by kernel_rfl) (by kernel_rfl) (by kernel_rfl) (fun _ _ _ h => h) (by assumption) (Or.inl ⟨by rfl, ?hy550⟩) (fun _ => rfl) ?rest550
          case hy550 => (intro w hSw; (try dsimp only at hSw); go_simp; try with_reducible rfl)
          try simp only [Act.put, List.setIfInBounds_toArray, List.set_cons_zero, List.set_cons_succ]
          refine' ordS_take (i := 27) (oi := { dst := some 124, op := Op.move (Operand.tmp 123), type := 4, pos := _, after := #[{ on := 26, ground := Ground.data }, { on := 9, ground := Ground.chain }], guard := none }) (v := _) rfl (by kernel_rfl) (by kernel_rfl) (by kernel_rfl) (by kernel_rfl) (fun _ _ _ h => h) (by assumption) (Or.inl ⟨by rfl, ?hy551⟩) (fun _ => rfl) ?rest551
          case hy551 => (intro w hSw; (try dsimp only at hSw); go_simp; try with_reducible rfl)
          try simp only [Act.put, List.setIfInBounds_toArray, List.set_cons_zero, List.set_cons_succ]
          refine' ordS_take (i := 28) (oi := { dst := some 125, op := Op.fieldAddr 26 (Operand.tmp 3) 1, type := 0, pos := _, after := #[{ on := 27, ground := Ground.guard }], guard := some (27, false) }) (v := _) rfl (by kernel_rfl) (by kernel_rfl) (by kernel_rfl) (by kernel_rfl) (fun _ _ _ h => h) (by assumption) (Or.inl ⟨by rfl, ?hy552⟩) (fun _ => rfl) ?rest552
          case hy552 => (intro w hSw; (try dsimp only at hSw); go_simp; try with_reducible rfl)
          try simp only [Act.put, List.setIfInBounds_toArray, List.set_cons_zero, List.set_cons_succ]
          refine' ordS_take (i := 29) (oi := { dst := some 126, op := Op.load 24 (Operand.tmp 125), type := 24, pos := _, after := #[{ on := 28, ground := Ground.data }, { on := 27, ground := Ground.guard }], guard := some (27, false) }) (v := _) rfl (by kernel_rfl) (by kernel_rfl) (by kernel_rfl) (by kernel_rfl) (fun _ _ _ h => h) (by assumption) (Or.inl ⟨by rfl, ?hy553⟩) (fun _ => rfl) ?rest553
          case hy553 => (intro w hSw; (try dsimp only at hSw); go_simp; try with_reducible rfl)
          try simp only [Act.put, List.setIfInBounds_toArray, List.set_cons_zero, List.set_cons_succ]
          refine' ordS_take (i := 30) (oi := { dst := some 127, op := Op.move (Operand.tmp 11), type := 3, pos := _, after := #[{ on := 27, ground := Ground.guard }], guard := some (27, false) }) (v := _) rfl (by kernel_rfl) (by kernel_rfl) (by kernel_rfl) (by kernel_rfl) (fun _ _ _ h => h) (by assumption) (Or.inl ⟨by rfl, ?hy554⟩) (fun _ => rfl) ?rest554
          case hy554 => (intro w hSw; (try dsimp only at hSw); go_simp; try with_reducible rfl)
          try simp only [Act.put, List.setIfInBounds_toArray, List.set_cons_zero, List.set_cons_succ]
          refine' ordS_take (i := 31) (oi := { dst := some 128, op := Op.indexAddr 24 (Operand.tmp 126) (Operand.tmp 127), type := 0, pos := _, after := #[{ on := 29, ground := Ground.data }, { on := 30, ground := Ground.data }, { on := 27, ground := Ground.guard }], guard := some (27, false) }) (v := _) rfl (by kernel_rfl) (by kernel_rfl) (by kernel_rfl) (by kernel_rfl) (fun _ _ _ h => h) (by assumption) (Or.inl ⟨by rfl, ?hy555⟩) (fun _ => rfl) ?rest555
          case hy555 => (intro w hSw; (try dsimp only at hSw); go_simp; try with_reducible rfl)
          try simp only [Act.put, List.setIfInBounds_toArray, List.set_cons_zero, List.set_cons_succ]
          refine' ordS_take (i := 32) (oi := { dst := some 129, op := Op.load 64 (Operand.tmp 128), type := 64, pos := _, after := #[{ on := 31, ground := Ground.data }, { on := 27, ground := Ground.guard }], guard := some (27, false) }) (v := _) rfl (by kernel_rfl) (by kernel_rfl) (by kernel_rfl) (by kernel_rfl) (fun _ _ _ h => h) (by assumption) (Or.inl ⟨by rfl, ?hy556⟩) (fun _ => rfl) ?rest556
          case hy556 => (intro w hSw; (try dsimp only at hSw); go_simp; try with_reducible rfl)
          try simp only [Act.put, List.setIfInBounds_toArray, List.set_cons_zero, List.set_cons_succ]
          refine' ordS_take (i := 33) (oi := { dst := some 130, op := Op.binOp BinOp.eql 64 (Operand.tmp 129) (Operand.const (Value.int IntKind.u16 0)) 64, type := 4, pos := _, after := #[{ on := 32, ground := Ground.data }, { on := 27, ground := Ground.guard }], guard := some (27, false) }) (v := _) rfl (by kernel_rfl) (by kernel_rfl) (by kernel_rfl) (by kernel_rfl) (fun _ _ _ h => h) (by assumption) (Or.inl ⟨by rfl, ?hy557⟩) (fun _ => rfl) ?rest557
          case hy557 => (intro w hSw; (try dsimp only at hSw); go_simp; try with_reducible rfl)
          try simp only [Act.put, List.setIfInBounds_toArray, List.set_cons_zero, List.set_cons_succ]
          refine' ordS_take (i := 34) (oi := { dst := some 131, op := Op.move (Operand.tmp 130), type := 4, pos := _, after := #[{ on := 33, ground := Ground.data }, { on := 27, ground := Ground.chain }, { on := 27, ground := Ground.guard }], guard := some (27, false) }) (v := _) rfl (by kernel_rfl) (by kernel_rfl) (by kernel_rfl) (by kernel_rfl) (fun _ _ _ h => h) (by assumption) (Or.inl ⟨by rfl, ?hy558⟩) (fun _ => rfl) ?rest558
          case hy558 => (intro w hSw; (try dsimp only at hSw); go_simp; try with_reducible rfl)
          try simp only [Act.put, List.setIfInBounds_toArray, List.set_cons_zero, List.set_cons_succ]
          refine' ordS_take (i := 35) (oi := { dst := some 132, op := Op.fieldAddr 54 (Operand.tmp 7) 1, type := 0, pos := _, after := #[{ on := 34, ground := Ground.guard }], guard := some (34, true) }) (v := _) rfl (by kernel_rfl) (by kernel_rfl) (by kernel_rfl) (by kernel_rfl) (fun _ _ _ h => h) (by assumption) (Or.inl ⟨by rfl, ?hy559⟩) (fun _ => rfl) ?rest559
          case hy559 => (intro w hSw; (try dsimp only at hSw); go_simp; try with_reducible rfl)
          try simp only [Act.put, List.setIfInBounds_toArray, List.set_cons_zero, List.set_cons_succ]
          refine' ordS_take (i := 36) (oi := { dst := some 133, op := Op.load 52 (Operand.tmp 132), type := 52, pos := _, after := #[{ on := 35, ground := Ground.data }, { on := 34, ground := Ground.guard }], guard := some (34, true) }) (v := _) rfl (by kernel_rfl) (by kernel_rfl) (by kernel_rfl) (by kernel_rfl) (fun _ _ _ h => h) (by assumption) (Or.inl ⟨by rfl, ?hy560⟩) (fun _ => rfl) ?rest560
          case hy560 => (intro w hSw; (try dsimp only at hSw); go_simp; try with_reducible rfl)
          try simp only [Act.put, List.setIfInBounds_toArray, List.set_cons_zero, List.set_cons_succ]
          refine' ordS_take (i := 37) (oi := { dst := some 134, op := Op.move (Operand.tmp 10), type := 3, pos := _, after := #[{ on := 34, ground := Ground.guard }], guard := some (34, true) }) (v := _) rfl (by kernel_rfl) (by kernel_rfl) (by kernel_rfl) (by kernel_rfl) (fun _ _ _ h => h) (by assumption) (Or.inl ⟨by rfl, ?hy561⟩) (fun _ => rfl) ?rest561
          case hy561 => (intro w hSw; (try dsimp only at hSw); go_simp; try with_reducible rfl)
          try simp only [Act.put, List.setIfInBounds_toArray, List.set_cons_zero, List.set_cons_succ]
          refine' ordS_take (i := 38) (oi := { dst := some 135, op := Op.indexAddr 52 (Operand.tmp 133) (Operand.tmp 134), type := 0, pos := _, after := #[{ on := 36, ground := Ground.data }, { on := 37, ground := Ground.data }, { on := 34, ground := Ground.guard }], guard := some (34, true) }) (v := _) rfl (by kernel_rfl) (by kernel_rfl) (by kernel_rfl) (by kernel_rfl) (fun _ _ _ h => h) (by assumption) (Or.inl ⟨by rfl, ?hy562⟩) (fun _ => rfl) ?rest562
          case hy562 => (intro w hSw; (try dsimp only at hSw); go_simp; try with_reducible rfl)
          try simp only [Act.put, List.setIfInBounds_toArray, List.set_cons_zero, List.set_cons_succ]
          refine' ordS_take (i := 39) (oi := { dst := some 136, op := Op.load 42 (Operand.tmp 135), type := 42, pos := _, after := #[{ on := 38, ground := Ground.data }, { on := 34, ground := Ground.guard }], guard := some (34, true) }) (v := _) rfl (by kernel_rfl) (by kernel_rfl) (by kernel_rfl) (by kernel_rfl) (fun _ _ _ h => h) (by assumption) (Or.inl ⟨by rfl, ?hy563⟩) (fun _ => rfl) ?rest563
          case hy563 => (intro w hSw; (try dsimp only at hSw); go_simp; try with_reducible rfl)
          try simp only [Act.put, List.setIfInBounds_toArray, List.set_cons_zero, List.set_cons_succ]
          refine' ordS_take (i := 40) (oi := { dst := some 137, op := Op.move (Operand.tmp 10), type := 3, pos := _, after := #[{ on := 34, ground := Ground.guard }], guard := some (34, true) }) (v := _) rfl (by kernel_rfl) (by kernel_rfl) (by kernel_rfl) (by kernel_rfl) (fun _ _ _ h => h) (by assumption) (Or.inl ⟨by rfl, ?hy564⟩) (fun _ => rfl) ?rest564
          case hy564 => (intro w hSw; (try dsimp only at hSw); go_simp; try with_reducible rfl)
          try simp only [Act.put, List.setIfInBounds_toArray, List.set_cons_zero, List.set_cons_succ]
          refine' ordS_take (i := 41) (oi := { dst := some 138, op := Op.indexAddr 42 (Operand.tmp 136) (Operand.tmp 137), type := 0, pos := _, after := #[{ on := 39, ground := Ground.data }, { on := 40, ground := Ground.data }, { on := 34, ground := Ground.guard }], guard := some (34, true) }) (v := _) rfl (by kernel_rfl) (by kernel_rfl) (by kernel_rfl) (by kernel_rfl) (fun _ _ _ h => h) (by assumption) (Or.inl ⟨by rfl, ?hy565⟩) (fun _ => rfl) ?rest565
          case hy565 => (intro w hSw; (try dsimp only at hSw); go_simp; try with_reducible rfl)
          try simp only [Act.put, List.setIfInBounds_toArray, List.set_cons_zero, List.set_cons_succ]
          refine' ordS_take (i := 42) (oi := { dst := some 139, op := Op.load 36 (Operand.tmp 138), type := 36, pos := _, after := #[{ on := 41, ground := Ground.data }, { on := 34, ground := Ground.guard }], guard := some (34, true) }) (v := _) rfl (by kernel_rfl) (by kernel_rfl) (by kernel_rfl) (by kernel_rfl) (fun _ _ _ h => h) (by assumption) (Or.inl ⟨by rfl, ?hy566⟩) (fun _ => rfl) ?rest566
          case hy566 => (intro w hSw; (try dsimp only at hSw); go_simp; try with_reducible rfl)
          try simp only [Act.put, List.setIfInBounds_toArray, List.set_cons_zero, List.set_cons_succ]
          refine' ordS_take (i := 43) (oi := { dst := some 140, op := Op.binOp BinOp.neq 36 (Operand.tmp 139) (Operand.const (Value.int IntKind.u64 18446744073709551615)) 36, type := 4, pos := _, after := #[{ on := 42, ground := Ground.data }, { on := 34, ground := Ground.guard }], guard := some (34, true) }) (v := _) rfl (by kernel_rfl) (by kernel_rfl) (by kernel_rfl) (by kernel_rfl) (fun _ _ _ h => h) (by assumption) (Or.inl ⟨by rfl, ?hy567⟩) (fun _ => rfl) ?rest567
          case hy567 => (intro w hSw; (try dsimp only at hSw); go_simp; try with_reducible rfl)
          try simp only [Act.put, List.setIfInBounds_toArray, List.set_cons_zero, List.set_cons_succ]
          refine' ordS_take (i := 44) (oi := { dst := some 141, op := Op.pick (Operand.tmp 131) (Operand.tmp 140) (Operand.const (Value.bool false)), type := 4, pos := _, after := #[{ on := 34, ground := Ground.data }, { on := 43, ground := Ground.data }, { on := 27, ground := Ground.guard }], guard := some (27, false) }) (v := _) rfl (by kernel_rfl) (by kernel_rfl) (by kernel_rfl) (by kernel_rfl) (fun _ _ _ h => h) (by assumption) (Or.inl ⟨by rfl, ?hy568⟩) (fun _ => rfl) ?rest568
          case hy568 => (intro w hSw; (try dsimp only at hSw); go_simp; try with_reducible rfl)
          try simp only [Act.put, List.setIfInBounds_toArray, List.set_cons_zero, List.set_cons_succ]
          refine' ordS_take (i := 45) (oi := { dst := some 142, op := Op.pick (Operand.tmp 124) (Operand.const (Value.bool true)) (Operand.tmp 141), type := 4, pos := _, after := #[{ on := 27, ground := Ground.data }, { on := 44, ground := Ground.data }], guard := none }) (v := _) rfl (by kernel_rfl) (by kernel_rfl) (by kernel_rfl) (by kernel_rfl) (fun _ _ _ h => h) (by assumption) (Or.inl ⟨by rfl, ?hy569⟩) (fun _ => rfl) ?rest569
          case hy569 => (intro w hSw; (try dsimp only at hSw); go_simp; try with_reducible rfl)
          try simp only [Act.put, List.setIfInBounds_toArray, List.set_cons_zero, List.set_cons_succ]
          refine ordS_done (by kernel_rfl) ?_
          clear hH
          go_wp2_with fail
          go_meet
          exact ⟨rfl, hD⟩
        · have hv := hown2 hz0
          subst hv
          have z1 : (z == 0) = false := by rw [beq_eq_false_iff_ne]; exact hz0
          have z2 : (z != 0) = true := by rw [bne_iff_ne]; exact hz0
          clear hown1 hown2 hz0
          have hD := bl_dr (bl0 X1)
          refine (wpIn_wide (n := 11)).1 ?_
          refine ordS_begin (S := (fun W9 : World => W9.cell? ⟨w.heap.size, 2, none⟩ = some (.slice (some ⟨fb, fo, none⟩) zs.length cap) ∧ W9.cell? ⟨fb, fo + ix, none⟩ = some (.int .u16 z) ∧ W9.cell? ⟨w2.heap.size, 1, none⟩ = some (.slice (some ⟨tb, tq, none⟩) cs.length tc) ∧ W9.cell? ⟨tb, tq + i, none⟩ = some (.slice (some ⟨sb, so, none⟩) cs.length sc) ∧ W9.cell? ⟨sb, so + i, none⟩ = some (.int .u64 0))) (by kernel_rfl) ⟨cell_later hD f2, cell_later hD fz, cell_later hD t1, cell_later hD r1, cell_later hD ri⟩ (fun hH => ?_)
          refine' ordS_take (i := 0) (oi := { dst := some 97, op := Op.move (Operand.tmp 11), type := 3, pos := _, after := #[], guard := none }) (v := _) rfl (by kernel_rfl) (by kernel_rfl) (by kernel_rfl) (by kernel_rfl) (fun _ _ _ h => h) (by assumption) (Or.inl ⟨by rfl, ?hy570⟩) (fun _ => rfl) ?rest570
          case hy570 => (intro w hSw; (try dsimp only at hSw); go_simp; try with_reducible rfl)
          try simp only [Act.put, List.setIfInBounds_toArray, List.set_cons_zero, List.set_cons_succ]
          refine' ordS_take (i := 1) (oi := { dst := some 98, op := Op.binOp BinOp.lss 3 (Operand.tmp 97) (Operand.const (Value.int IntKind.i64 0)) 3, type := 4, pos := _, after := #[{ on := 0, ground := Ground.data }], guard := none }) (v := _) rfl (by kernel_rfl) (by kernel_rfl) (by kernel_rfl) (by kernel_rfl) (fun _ _ _ h => h) (by assumption) (Or.inl ⟨by rfl, ?hy571⟩) (fun _ => rfl) ?rest571
          case hy571 => (intro w hSw; (try dsimp only at hSw); go_simp; try with_reducible rfl)
          try simp only [Act.put, List.setIfInBounds_toArray, List.set_cons_zero, List.set_cons_succ]
          refine' ordS_take (i := 2) (oi := { dst := some 99, op := Op.move (Operand.tmp 98), type := 4, pos := _, after := #[{ on := 1, ground := Ground.data }], guard := none }) (v := _) rfl (by kernel_rfl) (by kernel_rfl) (by kernel_rfl) (by kernel_rfl) (fun _ _ _ h => h) (by assumption) (Or.inl ⟨by rfl, ?hy572⟩) (fun _ => rfl) ?rest572
          case hy572 => (intro w hSw; (try dsimp only at hSw); go_simp; try with_reducible rfl)
          try simp only [Act.put, List.setIfInBounds_toArray, List.set_cons_zero, List.set_cons_succ]
          refine' ordS_take (i := 3) (oi := { dst := some 100, op := Op.move (Operand.tmp 11), type := 3, pos := _, after := #[{ on := 2, ground := Ground.guard }], guard := some (2, false) }) (v := _) rfl (by kernel_rfl) (by kernel_rfl) (by kernel_rfl) (by kernel_rfl) (fun _ _ _ h => h) (by assumption) (Or.inl ⟨by rfl, ?hy573⟩) (fun _ => rfl) ?rest573
          case hy573 => (intro w hSw; (try dsimp only at hSw); go_simp; try with_reducible rfl)
          try simp only [Act.put, List.setIfInBounds_toArray, List.set_cons_zero, List.set_cons_succ]
          refine' ordS_take (i := 4) (oi := { dst := some 101, op := Op.fieldAddr 26 (Operand.tmp 3) 1, type := 0, pos := _, after := #[{ on := 2, ground := Ground.guard }], guard := some (2, false) }) (v := _) rfl (by kernel_rfl) (by kernel_rfl) (by kernel_rfl) (by kernel_rfl) (fun _ _ _ h => h) (by assumption) (Or.inl ⟨by rfl, ?hy574⟩) (fun _ => rfl) ?rest574
          case hy574 => (intro w hSw; (try dsimp only at hSw); go_simp; try with_reducible rfl)
          try simp only [Act.put, List.setIfInBounds_toArray, List.set_cons_zero, List.set_cons_succ]
          refine' ordS_take (i := 5) (oi := { dst := some 102, op := Op.load 24 (Operand.tmp 101), type := 24, pos := _, after := #[{ on := 4, ground := Ground.data }, { on := 2, ground := Ground.guard }], guard := some (2, false) }) (v := _) rfl (by kernel_rfl) (by kernel_rfl) (by kernel_rfl) (by kernel_rfl) (fun _ _ _ h => h) (by assumption) (Or.inl ⟨by rfl, ?hy575⟩) (fun _ => rfl) ?rest575
          case hy575 => (intro w hSw; (try dsimp only at hSw); go_simp; try with_reducible rfl)
          try simp only [Act.put, List.setIfInBounds_toArray, List.set_cons_zero, List.set_cons_succ]
          refine' ordS_take (i := 6) (oi := { dst := some 103, op := Op.call { callee := Callee.builtin Builtin.len, args := #[Operand.tmp 102], argTypes := #[24] }, type := 3, pos := _, after := #[{ on := 5, ground := Ground.data }, { on := 2, ground := Ground.guard }], guard := some (2, false) }) (v := _) rfl (by kernel_rfl) (by kernel_rfl) (by kernel_rfl) (by kernel_rfl) (fun _ _ _ h => h) (by assumption) (Or.inl ⟨by rfl, ?hy576⟩) (fun _ => rfl) ?rest576
          case hy576 => (intro w hSw; (try dsimp only at hSw); go_simp; try with_reducible rfl)
          try simp only [Act.put, List.setIfInBounds_toArray, List.set_cons_zero, List.set_cons_succ]
          refine' ordS_take (i := 7) (oi := { dst := some 104, op := Op.binOp BinOp.geq 3 (Operand.tmp 100) (Operand.tmp 103) 3, type := 4, pos := _, after := #[{ on := 3, ground := Ground.data }, { on := 6, ground := Ground.data }, { on := 2, ground := Ground.guard }], guard := some (2, false) }) (v := _) rfl (by kernel_rfl) (by kernel_rfl) (by kernel_rfl) (by kernel_rfl) (fun _ _ _ h => h) (by assumption) (Or.inl ⟨by rfl, ?hy577⟩) (fun _ => rfl) ?rest577
          case hy577 => (intro w hSw; (try dsimp only at hSw); go_simp; try with_reducible rfl)
          try simp only [Act.put, List.setIfInBounds_toArray, List.set_cons_zero, List.set_cons_succ]
          refine' ordS_take (i := 8) (oi := { dst := some 105, op := Op.pick (Operand.tmp 99) (Operand.const (Value.bool true)) (Operand.tmp 104), type := 4, pos := _, after := #[{ on := 2, ground := Ground.data }, { on := 7, ground := Ground.data }], guard := none }) (v := _) rfl (by kernel_rfl) (by kernel_rfl) (by kernel_rfl) (by kernel_rfl) (fun _ _ _ h => h) (by assumption) (Or.inl ⟨by rfl, ?hy578⟩) (fun _ => rfl) ?rest578
          case hy578 => (intro w hSw; (try dsimp only at hSw); go_simp; try with_reducible rfl)
          try simp only [Act.put, List.setIfInBounds_toArray, List.set_cons_zero, List.set_cons_succ]
          refine' ordS_take (i := 9) (oi := { dst := some 106, op := Op.move (Operand.tmp 105), type := 4, pos := _, after := #[{ on := 8, ground := Ground.data }, { on := 2, ground := Ground.chain }], guard := none }) (v := _) rfl (by kernel_rfl) (by kernel_rfl) (by kernel_rfl) (by kernel_rfl) (fun _ _ _ h => h) (by assumption) (Or.inl ⟨by rfl, ?hy579⟩) (fun _ => rfl) ?rest579
          case hy579 => (intro w hSw; (try dsimp only at hSw); go_simp; try with_reducible rfl)
          try simp only [Act.put, List.setIfInBounds_toArray, List.set_cons_zero, List.set_cons_succ]
          refine' ordS_take (i := 10) (oi := { dst := some 107, op := Op.fieldAddr 54 (Operand.tmp 7) 1, type := 0, pos := _, after := #[{ on := 9, ground := Ground.guard }], guard := some (9, false) }) (v := _) rfl (by kernel_rfl) (by kernel_rfl) (by kernel_rfl) (by kernel_rfl) (fun _ _ _ h => h) (by assumption) (Or.inl ⟨by rfl, ?hy580⟩) (fun _ => rfl) ?rest580
          case hy580 => (intro w hSw; (try dsimp only at hSw); go_simp; try with_reducible rfl)
          try simp only [Act.put, List.setIfInBounds_toArray, List.set_cons_zero, List.set_cons_succ]
          refine' ordS_take (i := 11) (oi := { dst := some 108, op := Op.load 52 (Operand.tmp 107), type := 52, pos := _, after := #[{ on := 10, ground := Ground.data }, { on := 9, ground := Ground.guard }], guard := some (9, false) }) (v := _) rfl (by kernel_rfl) (by kernel_rfl) (by kernel_rfl) (by kernel_rfl) (fun _ _ _ h => h) (by assumption) (Or.inl ⟨by rfl, ?hy581⟩) (fun _ => rfl) ?rest581
          case hy581 => (intro w hSw; (try dsimp only at hSw); go_simp; try with_reducible rfl)
          try simp only [Act.put, List.setIfInBounds_toArray, List.set_cons_zero, List.set_cons_succ]
          refine' ordS_take (i := 12) (oi := { dst := some 109, op := Op.move (Operand.tmp 10), type := 3, pos := _, after := #[{ on := 9, ground := Ground.guard }], guard := some (9, false) }) (v := _) rfl (by kernel_rfl) (by kernel_rfl) (by kernel_rfl) (by kernel_rfl) (fun _ _ _ h => h) (by assumption) (Or.inl ⟨by rfl, ?hy582⟩) (fun _ => rfl) ?rest582
          case hy582 => (intro w hSw; (try dsimp only at hSw); go_simp; try with_reducible rfl)
          try simp only [Act.put, List.setIfInBounds_toArray, List.set_cons_zero, List.set_cons_succ]
          refine' ordS_take (i := 13) (oi := { dst := some 110, op := Op.indexAddr 52 (Operand.tmp 108) (Operand.tmp 109), type := 0, pos := _, after := #[{ on := 11, ground := Ground.data }, { on := 12, ground := Ground.data }, { on := 9, ground := Ground.guard }], guard := some (9, false) }) (v := _) rfl (by kernel_rfl) (by kernel_rfl) (by kernel_rfl) (by kernel_rfl) (fun _ _ _ h => h) (by assumption) (Or.inl ⟨by rfl, ?hy583⟩) (fun _ => rfl) ?rest583
          case hy583 => (intro w hSw; (try dsimp only at hSw); go_simp; try with_reducible rfl)
          try simp only [Act.put, List.setIfInBounds_toArray, List.set_cons_zero, List.set_cons_succ]
          refine' ordS_take (i := 14) (oi := { dst := some 111, op := Op.load 42 (Operand.tmp 110), type := 42, pos := _, after := #[{ on := 13, ground := Ground.data }, { on := 9, ground := Ground.guard }], guard := some (9, false) }) (v := _) rfl (by kernel_rfl) (by kernel_rfl) (by kernel_rfl) (by kernel_rfl) (fun _ _ _ h => h) (by assumption) (Or.inl ⟨by rfl, ?hy584⟩) (fun _ => rfl) ?rest584
          case hy584 => (intro w hSw; (try dsimp only at hSw); go_simp; try with_reducible rfl)
          try simp only [Act.put, List.setIfInBounds_toArray, List.set_cons_zero, List.set_cons_succ]
          refine' ordS_take (i := 15) (oi := { dst := some 112, op := Op.move (Operand.tmp 10), type := 3, pos := _, after := #[{ on := 9, ground := Ground.guard }], guard := some (9, false) }) (v := _) rfl (by kernel_rfl) (by kernel_rfl) (by kernel_rfl) (by kernel_rfl) (fun _ _ _ h => h) (by assumption) (Or.inl ⟨by rfl, ?hy585⟩) (fun _ => rfl) ?rest585
          case hy585 => (intro w hSw; (try dsimp only at hSw); go_simp; try with_reducible rfl)
          try simp only [Act.put, List.setIfInBounds_toArray, List.set_cons_zero, List.set_cons_succ]
          refine' ordS_take (i := 16) (oi := { dst := some 113, op := Op.indexAddr 42 (Operand.tmp 111) (Operand.tmp 112), type := 0, pos := _, after := #[{ on := 14, ground := Ground.data }, { on := 15, ground := Ground.data }, { on := 9, ground := Ground.guard }], guard := some (9, false) }) (v := _) rfl (by kernel_rfl) (by kernel_rfl) (by kernel_rfl) (by kernel_rfl) (fun _ _ _ h => h) (by assumption) (Or.inl ⟨by rfl, ?hy586⟩) (fun _ => rfl) ?rest586
          case hy586 => (intro w hSw; (try dsimp only at hSw); go_simp; try with_reducible rfl)
          try simp only [Act.put, List.setIfInBounds_toArray, List.set_cons_zero, List.set_cons_succ]
          refine' ordS_take (i := 17) (oi := { dst := some 114, op := Op.load 36 (Operand.tmp 113), type := 36, pos := _, after := #[{ on := 16, ground := Ground.data }, { on := 9, ground := Ground.guard }], guard := some (9, false) }) (v := _) rfl (by kernel_rfl) (by kernel_rfl) (by kernel_rfl) (by kernel_rfl) (fun _ _ _ h => h) (by assumption) (Or.inl ⟨by rfl, ?hy587⟩) (fun _ => rfl) ?rest587
          case hy587 => (intro w hSw; (try dsimp only at hSw); go_simp; try with_reducible rfl)
          try simp only [Act.put, List.setIfInBounds_toArray, List.set_cons_zero, List.set_cons_succ]
          refine' ordS_take (i := 18) (oi := { dst := some 115, op := Op.binOp BinOp.eql 36 (Operand.tmp 114) (Operand.const (Value.int IntKind.u64 0)) 36, type := 4, pos := _, after := #[{ on := 17, ground := Ground.data }, { on := 9, ground := Ground.guard }], guard := some (9, false) }) (v := _) rfl (by kernel_rfl) (by kernel_rfl) (by kernel_rfl) (by kernel_rfl) (fun _ _ _ h => h) (by assumption) (Or.inl ⟨by rfl, ?hy588⟩) (fun _ => rfl) ?rest588
          case hy588 => (intro w hSw; (try dsimp only at hSw); go_simp; try with_reducible rfl)
          try simp only [Act.put, List.setIfInBounds_toArray, List.set_cons_zero, List.set_cons_succ]
          refine' ordS_take (i := 19) (oi := { dst := some 116, op := Op.fieldAddr 26 (Operand.tmp 3) 1, type := 0, pos := _, after := #[{ on := 9, ground := Ground.guard }], guard := some (9, false) }) (v := _) rfl (by kernel_rfl) (by kernel_rfl) (by kernel_rfl) (by kernel_rfl) (fun _ _ _ h => h) (by assumption) (Or.inl ⟨by rfl, ?hy589⟩) (fun _ => rfl) ?rest589
          case hy589 => (intro w hSw; (try dsimp only at hSw); go_simp; try with_reducible rfl)
          try simp only [Act.put, List.setIfInBounds_toArray, List.set_cons_zero, List.set_cons_succ]
          refine' ordS_take (i := 20) (oi := { dst := some 117, op := Op.load 24 (Operand.tmp 116), type := 24, pos := _, after := #[{ on := 19, ground := Ground.data }, { on := 9, ground := Ground.guard }], guard := some (9, false) }) (v := _) rfl (by kernel_rfl) (by kernel_rfl) (by kernel_rfl) (by kernel_rfl) (fun _ _ _ h => h) (by assumption) (Or.inl ⟨by rfl, ?hy590⟩) (fun _ => rfl) ?rest590
          case hy590 => (intro w hSw; (try dsimp only at hSw); go_simp; try with_reducible rfl)
          try simp only [Act.put, List.setIfInBounds_toArray, List.set_cons_zero, List.set_cons_succ]
          refine' ordS_take (i := 21) (oi := { dst := some 118, op := Op.move (Operand.tmp 11), type := 3, pos := _, after := #[{ on := 9, ground := Ground.guard }], guard := some (9, false) }) (v := _) rfl (by kernel_rfl) (by kernel_rfl) (by kernel_rfl) (by kernel_rfl) (fun _ _ _ h => h) (by assumption) (Or.inl ⟨by rfl, ?hy591⟩) (fun _ => rfl) ?rest591
          case hy591 => (intro w hSw; (try dsimp only at hSw); go_simp; try with_reducible rfl)
          try simp only [Act.put, List.setIfInBounds_toArray, List.set_cons_zero, List.set_cons_succ]
          refine' ordS_take (i := 22) (oi := { dst := some 119, op := Op.indexAddr 24 (Operand.tmp 117) (Operand.tmp 118), type := 0, pos := _, after := #[{ on := 20, ground := Ground.data }, { on := 21, ground := Ground.data }, { on := 9, ground := Ground.guard }], guard := some (9, false) }) (v := _) rfl (by kernel_rfl) (by kernel_rfl) (by kernel_rfl) (by kernel_rfl) (fun _ _ _ h => h) (by assumption) (Or.inl ⟨by rfl, ?hy592⟩) (fun _ => rfl) ?rest592
          case hy592 => (intro w hSw; (try dsimp only at hSw); go_simp; try with_reducible rfl)
          try simp only [Act.put, List.setIfInBounds_toArray, List.set_cons_zero, List.set_cons_succ]
          refine' ordS_take (i := 23) (oi := { dst := some 120, op := Op.load 64 (Operand.tmp 119), type := 64, pos := _, after := #[{ on := 22, ground := Ground.data }, { on := 9, ground := Ground.guard }], guard := some (9, false) }) (v := _) rfl (by kernel_rfl) (by kernel_rfl) (by kernel_rfl) (by kernel_rfl) (fun _ _ _ h => h) (by assumption) (Or.inl ⟨by rfl, ?hy593⟩) (fun _ => rfl) ?rest593
          case hy593 => (intro w hSw; (try dsimp only at hSw); go_simp; try with_reducible rfl)
          try simp only [Act.put, List.setIfInBounds_toArray, List.set_cons_zero, List.set_cons_succ]
          refine' ordS_take (i := 24) (oi := { dst := some 121, op := Op.binOp BinOp.neq 64 (Operand.tmp 120) (Operand.const (Value.int IntKind.u16 0)) 64, type := 4, pos := _, after := #[{ on := 23, ground := Ground.data }, { on := 9, ground := Ground.guard }], guard := some (9, false) }) (v := _) rfl (by kernel_rfl) (by kernel_rfl) (by kernel_rfl) (by kernel_rfl) (fun _ _ _ h => h) (by assumption) (Or.inl ⟨by rfl, ?hy594⟩) (fun _ => rfl) ?rest594
          case hy594 => (intro w hSw; (try dsimp only at hSw); go_simp; try with_reducible rfl)
          try simp only [Act.put, List.setIfInBounds_toArray, List.set_cons_zero, List.set_cons_succ]
          refine' ordS_take (i := 25) (oi := { dst := some 122, op := Op.binOp BinOp.neq 4 (Operand.tmp 115) (Operand.tmp 121) 4, type := 4, pos := _, after := #[{ on := 18, ground := Ground.data }, { on := 24, ground := Ground.data }, { on := 9, ground := Ground.guard }], guard := some (9, false) }) (v := _) rfl (by kernel_rfl) (by kernel_rfl) (by kernel_rfl) (by kernel_rfl) (fun _ _ _ h => h) (by assumption) (Or.inl ⟨by rfl, ?hy595⟩) (fun _ => rfl) ?rest595
          case hy595 => (intro w hSw; (try dsimp only at hSw); go_simp; try with_reducible rfl)
          try simp only [Act.put, List.setIfInBounds_toArray, List.set_cons_zero, List.set_cons_succ]
          refine' ordS_take (i := 26) (oi := { dst := some 123, op := Op.pick (Operand.tmp 106) (Operand.const (Value.bool true)) (Operand.tmp 122), type := 4, pos := _, after := #[{ on := 9, ground := Ground.data }, { on := 25, ground := Ground.data }], guard := none }) (v := _) rfl (by kernel_rfl) (by kernel_rfl) (by kernel_rfl) (by kernel_rfl) (fun _ _ _ h => h) (by assumption) (Or.inl ⟨by rfl, ?hy596⟩) (fun _ => rfl) ?rest596
          case hy596 => (intro w hSw; (try dsimp only at hSw); go_simp; try with_reducible rfl)
          try simp only [Act.put, List.setIfInBounds_toArray, List.set_cons_zero, List.set_cons_succ]
          refine' ordS_take (i := 27) (oi := { dst := some 124, op := Op.move (Operand.tmp 123), type := 4, pos := _, after := #[{ on := 26, ground := Ground.data }, { on := 9, ground := Ground.chain }], guard := none }) (v := _) rfl (by kernel_rfl) (by kernel_rfl) (by kernel_rfl) (by kernel_rfl) (fun _ _ _ h => h) (by assumption) (Or.inl ⟨by rfl, ?hy597⟩) (fun _ => rfl) ?rest597
          case hy597 => (intro w hSw; (try dsimp only at hSw); go_simp; try with_reducible rfl)
          try simp only [Act.put, List.setIfInBounds_toArray, List.set_cons_zero, List.set_cons_succ]
          refine' ordS_take (i := 28) (oi := { dst := some 125, op := Op.fieldAddr 26 (Operand.tmp 3) 1, type := 0, pos := _, after := #[{ on := 27, ground := Ground.guard }], guard := some (27, false) }) (v := _) rfl (by kernel_rfl) (by kernel_rfl) (by kernel_rfl) (by kernel_rfl) (fun _ _ _ h => h) (by assumption) (Or.inl ⟨by rfl, ?hy598⟩) (fun _ => rfl) ?rest598
          case hy598 => (intro w hSw; (try dsimp only at hSw); go_simp; try with_reducible rfl)
          try simp only [Act.put, List.setIfInBounds_toArray, List.set_cons_zero, List.set_cons_succ]
          refine' ordS_take (i := 29) (oi := { dst := some 126, op := Op.load 24 (Operand.tmp 125), type := 24, pos := _, after := #[{ on := 28, ground := Ground.data }, { on := 27, ground := Ground.guard }], guard := some (27, false) }) (v := _) rfl (by kernel_rfl) (by kernel_rfl) (by kernel_rfl) (by kernel_rfl) (fun _ _ _ h => h) (by assumption) (Or.inl ⟨by rfl, ?hy599⟩) (fun _ => rfl) ?rest599
          case hy599 => (intro w hSw; (try dsimp only at hSw); go_simp; try with_reducible rfl)
          try simp only [Act.put, List.setIfInBounds_toArray, List.set_cons_zero, List.set_cons_succ]
          refine' ordS_take (i := 30) (oi := { dst := some 127, op := Op.move (Operand.tmp 11), type := 3, pos := _, after := #[{ on := 27, ground := Ground.guard }], guard := some (27, false) }) (v := _) rfl (by kernel_rfl) (by kernel_rfl) (by kernel_rfl) (by kernel_rfl) (fun _ _ _ h => h) (by assumption) (Or.inl ⟨by rfl, ?hy600⟩) (fun _ => rfl) ?rest600
          case hy600 => (intro w hSw; (try dsimp only at hSw); go_simp; try with_reducible rfl)
          try simp only [Act.put, List.setIfInBounds_toArray, List.set_cons_zero, List.set_cons_succ]
          refine' ordS_take (i := 31) (oi := { dst := some 128, op := Op.indexAddr 24 (Operand.tmp 126) (Operand.tmp 127), type := 0, pos := _, after := #[{ on := 29, ground := Ground.data }, { on := 30, ground := Ground.data }, { on := 27, ground := Ground.guard }], guard := some (27, false) }) (v := _) rfl (by kernel_rfl) (by kernel_rfl) (by kernel_rfl) (by kernel_rfl) (fun _ _ _ h => h) (by assumption) (Or.inl ⟨by rfl, ?hy601⟩) (fun _ => rfl) ?rest601
          case hy601 => (intro w hSw; (try dsimp only at hSw); go_simp; try with_reducible rfl)
          try simp only [Act.put, List.setIfInBounds_toArray, List.set_cons_zero, List.set_cons_succ]
          refine' ordS_take (i := 32) (oi := { dst := some 129, op := Op.load 64 (Operand.tmp 128), type := 64, pos := _, after := #[{ on := 31, ground := Ground.data }, { on := 27, ground := Ground.guard }], guard := some (27, false) }) (v := _) rfl (by kernel_rfl) (by kernel_rfl) (by kernel_rfl) (by kernel_rfl) (fun _ _ _ h => h) (by assumption) (Or.inl ⟨by rfl, ?hy602⟩) (fun _ => rfl) ?rest602
          case hy602 => (intro w hSw; (try dsimp only at hSw); go_simp; try with_reducible rfl)
          try simp only [Act.put, List.setIfInBounds_toArray, List.set_cons_zero, List.set_cons_succ]
          refine' ordS_take (i := 33) (oi := { dst := some 130, op := Op.binOp BinOp.eql 64 (Operand.tmp 129) (Operand.const (Value.int IntKind.u16 0)) 64, type := 4, pos := _, after := #[{ on := 32, ground := Ground.data }, { on := 27, ground := Ground.guard }], guard := some (27, false) }) (v := _) rfl (by kernel_rfl) (by kernel_rfl) (by kernel_rfl) (by kernel_rfl) (fun _ _ _ h => h) (by assumption) (Or.inl ⟨by rfl, ?hy603⟩) (fun _ => rfl) ?rest603
          case hy603 => (intro w hSw; (try dsimp only at hSw); go_simp; try with_reducible rfl)
          try simp only [Act.put, List.setIfInBounds_toArray, List.set_cons_zero, List.set_cons_succ]
          refine' ordS_take (i := 34) (oi := { dst := some 131, op := Op.move (Operand.tmp 130), type := 4, pos := _, after := #[{ on := 33, ground := Ground.data }, { on := 27, ground := Ground.chain }, { on := 27, ground := Ground.guard }], guard := some (27, false) }) (v := _) rfl (by kernel_rfl) (by kernel_rfl) (by kernel_rfl) (by kernel_rfl) (fun _ _ _ h => h) (by assumption) (Or.inl ⟨by rfl, ?hy604⟩) (fun _ => rfl) ?rest604
          case hy604 => (intro w hSw; (try dsimp only at hSw); go_simp; try with_reducible rfl)
          try simp only [Act.put, List.setIfInBounds_toArray, List.set_cons_zero, List.set_cons_succ]
          refine ordS_take (i := 35) (oi := { dst := some 132, op := Op.fieldAddr 54 (Operand.tmp 7) 1, type := 0, pos := _, after := #[{ on := 34, ground := Ground.guard }], guard := some (34, true) }) (v := undef) rfl (by kernel_rfl) (by kernel_rfl) (by kernel_rfl) (by kernel_rfl) (fun _ _ _ h => h) (by assumption) (Or.inr ⟨by rfl, rfl⟩) (fun _ => rfl) ?_
          try simp only [Act.put, List.setIfInBounds_toArray, List.set_cons_zero, List.set_cons_succ]
          refine ordS_take (i := 36) (oi := { dst := some 133, op := Op.load 52 (Operand.tmp 132), type := 52, pos := _, after := #[{ on := 35, ground := Ground.data }, { on := 34, ground := Ground.guard }], guard := some (34, true) }) (v := undef) rfl (by kernel_rfl) (by kernel_rfl) (by kernel_rfl) (by kernel_rfl) (fun _ _ _ h => h) (by assumption) (Or.inr ⟨by rfl, rfl⟩) (fun _ => rfl) ?_
          try simp only [Act.put, List.setIfInBounds_toArray, List.set_cons_zero, List.set_cons_succ]
          refine ordS_take (i := 37) (oi := { dst := some 134, op := Op.move (Operand.tmp 10), type := 3, pos := _, after := #[{ on := 34, ground := Ground.guard }], guard := some (34, true) }) (v := undef) rfl (by kernel_rfl) (by kernel_rfl) (by kernel_rfl) (by kernel_rfl) (fun _ _ _ h => h) (by assumption) (Or.inr ⟨by rfl, rfl⟩) (fun _ => rfl) ?_
          try simp only [Act.put, List.setIfInBounds_toArray, List.set_cons_zero, List.set_cons_succ]
          refine ordS_take (i := 38) (oi := { dst := some 135, op := Op.indexAddr 52 (Operand.tmp 133) (Operand.tmp 134), type := 0, pos := _, after := #[{ on := 36, ground := Ground.data }, { on := 37, ground := Ground.data }, { on := 34, ground := Ground.guard }], guard := some (34, true) }) (v := undef) rfl (by kernel_rfl) (by kernel_rfl) (by kernel_rfl) (by kernel_rfl) (fun _ _ _ h => h) (by assumption) (Or.inr ⟨by rfl, rfl⟩) (fun _ => rfl) ?_
          try simp only [Act.put, List.setIfInBounds_toArray, List.set_cons_zero, List.set_cons_succ]
          refine ordS_take (i := 39) (oi := { dst := some 136, op := Op.load 42 (Operand.tmp 135), type := 42, pos := _, after := #[{ on := 38, ground := Ground.data }, { on := 34, ground := Ground.guard }], guard := some (34, true) }) (v := undef) rfl (by kernel_rfl) (by kernel_rfl) (by kernel_rfl) (by kernel_rfl) (fun _ _ _ h => h) (by assumption) (Or.inr ⟨by rfl, rfl⟩) (fun _ => rfl) ?_
          try simp only [Act.put, List.setIfInBounds_toArray, List.set_cons_zero, List.set_cons_succ]
          refine ordS_take (i := 40) (oi := { dst := some 137, op := Op.move (Operand.tmp 10), type := 3, pos := _, after := #[{ on := 34, ground := Ground.guard }], guard := some (34, true) }) (v := undef) rfl (by kernel_rfl) (by kernel_rfl) (by kernel_rfl) (by kernel_rfl) (fun _ _ _ h => h) (by assumption) (Or.inr ⟨by rfl, rfl⟩) (fun _ => rfl) ?_
          try simp only [Act.put, List.setIfInBounds_toArray, List.set_cons_zero, List.set_cons_succ]
          refine ordS_take (i := 41) (oi := { dst := some 138, op := Op.indexAddr 42 (Operand.tmp 136) (Operand.tmp 137), type := 0, pos := _, after := #[{ on := 39, ground := Ground.data }, { on := 40, ground := Ground.data }, { on := 34, ground := Ground.guard }], guard := some (34, true) }) (v := undef) rfl (by kernel_rfl) (by kernel_rfl) (by kernel_rfl) (by kernel_rfl) (fun _ _ _ h => h) (by assumption) (Or.inr ⟨by rfl, rfl⟩) (fun _ => rfl) ?_
          try simp only [Act.put, List.setIfInBounds_toArray, List.set_cons_zero, List.set_cons_succ]
          refine ordS_take (i := 42) (oi := { dst := some 139, op := Op.load 36 (Operand.tmp 138), type := 36, pos := _, after := #[{ on := 41, ground := Ground.data }, { on := 34, ground := Ground.guard }], guard := some (34, true) }) (v := undef) rfl (by kernel_rfl) (by kernel_rfl) (by kernel_rfl) (by kernel_rfl) (fun _ _ _ h => h) (by assumption) (Or.inr ⟨by rfl, rfl⟩) (fun _ => rfl) ?_
          try simp only [Act.put, List.setIfInBounds_toArray, List.set_cons_zero, List.set_cons_succ]
          refine ordS_take (i := 43) (oi := { dst := some 140, op := Op.binOp BinOp.neq 36 (Operand.tmp 139) (Operand.const (Value.int IntKind.u64 18446744073709551615)) 36, type := 4, pos := _, after := #[{ on := 42, ground := Ground.data }, { on := 34, ground := Ground.guard }], guard := some (34, true) }) (v := undef) rfl (by kernel_rfl) (by kernel_rfl) (by kernel_rfl) (by kernel_rfl) (fun _ _ _ h => h) (by assumption) (Or.inr ⟨by rfl, rfl⟩) (fun _ => rfl) ?_
          try simp only [Act.put, List.setIfInBounds_toArray, List.set_cons_zero, List.set_cons_succ]
          refine' ordS_take (i := 44) (oi := { dst := some 141, op := Op.pick (Operand.tmp 131) (Operand.tmp 140) (Operand.const (Value.bool false)), type := 4, pos := _, after := #[{ on := 34, ground := Ground.data }, { on := 43, ground := Ground.data }, { on := 27, ground := Ground.guard }], guard := some (27, false) }) (v := _) rfl (by kernel_rfl) (by kernel_rfl) (by kernel_rfl) (by kernel_rfl) (fun _ _ _ h => h) (by assumption) (Or.inl ⟨by rfl, ?hy614⟩) (fun _ => rfl) ?rest614
          case hy614 => (intro w hSw; (try dsimp only at hSw); go_simp; try with_reducible rfl)
          try simp only [Act.put, List.setIfInBounds_toArray, List.set_cons_zero, List.set_cons_succ]
          refine' ordS_take (i := 45) (oi := { dst := some 142, op := Op.pick (Operand.tmp 124) (Operand.const (Value.bool true)) (Operand.tmp 141), type := 4, pos := _, after := #[{ on := 27, ground := Ground.data }, { on := 44, ground := Ground.data }], guard := none }) (v := _) rfl (by kernel_rfl) (by kernel_rfl) (by kernel_rfl) (by kernel_rfl) (fun _ _ _ h => h) (by assumption) (Or.inl ⟨by rfl, ?hy615⟩) (fun _ => rfl) ?rest615
          case hy615 => (intro w hSw; (try dsimp only at hSw); go_simp; try with_reducible rfl)
          try simp only [Act.put, List.setIfInBounds_toArray, List.set_cons_zero, List.set_cons_succ]
          refine ordS_done (by kernel_rfl) ?_
          clear hH
          go_wp2_with fail
          go_meet
          exact ⟨rfl, hD⟩
      case rest =>
        obtain ⟨X2, rfl⟩ : ∃ X2, X2 = wc := ⟨_, rfl⟩
        obtain ⟨rfl, hD⟩ := hcut
        replace f0 := cell_later hD f0; replace f1 := cell_later hD f1; replace f2 := cell_later hD f2; replace c1 := cell_later hD c1; replace t1 := cell_later hD t1
        replace q0 := cell_later hD q0; replace q1 := cell_later hD q1; replace r1 := cell_later hD r1
        have hBX2 := bl_tr hBX1 hD
        have HRI2 := Lib.hid ((HRI.out.below HDX.out).below hD)
        have zf0 := blk_lt f0; have zc1 := blk_lt c1; have zt1 := blk_lt t1; have zr1 := blk_lt r1
        clear hD hBX1 HRI HDX
        go_upto_region 17 with fail
        have hD := bl_dr (bl0 X2)
        refine (wpIn_wide (n := 11)).1 ?_
        refine ordS_begin (S := (fun W9 : World => W9.cell? ⟨w.heap.size, 0, none⟩ = some (.int .i64 A) ∧ W9.cell? ⟨w.heap.size, 1, none⟩ = some (.int .i64 B) ∧ W9.cell? ⟨w.heap.size, 2, none⟩ = some (.slice (some ⟨fb, fo, none⟩) zs.length cap) ∧ W9.cell? ⟨w.heap.size + 1 + 1, 1, none⟩ = some (.slice (some ⟨cb, co, none⟩) cs.length cc) ∧ W9.cell? ⟨cb, co + i * 2, none⟩ = some (.int .i64 d.1) ∧ W9.cell? ⟨cb, co + i * 2 + 1, none⟩ = some (.int .i64 d.2))) (by kernel_rfl) ⟨cell_later hD f0, cell_later hD f1, cell_later hD f2, cell_later hD c1, cell_later hD q0, cell_later hD q1⟩ (fun hH => ?_)
        refine' ordS_take (i := 0) (oi := { dst := some 144, op := Op.load 26 (Operand.tmp 3), type := 26, pos := _, after := #[], guard := none }) (v := _) rfl (by kernel_rfl) (by kernel_rfl) (by kernel_rfl) (by kernel_rfl) (fun _ _ _ h => h) (by assumption) (Or.inl ⟨by rfl, ?hy616⟩) (fun _ => rfl) ?rest616
        case hy616 => (intro w hSw; (try dsimp only at hSw); go_simp; try with_reducible rfl)
        try simp only [Act.put, List.setIfInBounds_toArray, List.set_cons_zero, List.set_cons_succ]
        refine' ordS_take (i := 1) (oi := { dst := some 145, op := Op.fieldAddr 50 (Operand.tmp 5) 1, type := 0, pos := _, after := #[], guard := none }) (v := _) rfl (by kernel_rfl) (by kernel_rfl) (by kernel_rfl) (by kernel_rfl) (fun _ _ _ h => h) (by assumption) (Or.inl ⟨by rfl, ?hy617⟩) (fun _ => rfl) ?rest617
        case hy617 => (intro w hSw; (try dsimp only at hSw); go_simp; try with_reducible rfl)
        try simp only [Act.put, List.setIfInBounds_toArray, List.set_cons_zero, List.set_cons_succ]
        refine' ordS_take (i := 2) (oi := { dst := some 146, op := Op.load 35 (Operand.tmp 145), type := 35, pos := _, after := #[{ on := 1, ground := Ground.data }], guard := none }) (v := _) rfl (by kernel_rfl) (by kernel_rfl) (by kernel_rfl) (by kernel_rfl) (fun _ _ _ h => h) (by assumption) (Or.inl ⟨by rfl, ?hy618⟩) (fun _ => rfl) ?rest618
        case hy618 => (intro w hSw; (try dsimp only at hSw); go_simp; try with_reducible rfl)
        try simp only [Act.put, List.setIfInBounds_toArray, List.set_cons_zero, List.set_cons_succ]
        refine' ordS_take (i := 3) (oi := { dst := some 147, op := Op.move (Operand.tmp 10), type := 3, pos := _, after := #[], guard := none }) (v := _) rfl (by kernel_rfl) (by kernel_rfl) (by kernel_rfl) (by kernel_rfl) (fun _ _ _ h => h) (by assumption) (Or.inl ⟨by rfl, ?hy619⟩) (fun _ => rfl) ?rest619
        case hy619 => (intro w hSw; (try dsimp only at hSw); go_simp; try with_reducible rfl)
        try simp only [Act.put, List.setIfInBounds_toArray, List.set_cons_zero, List.set_cons_succ]
        refine' ordS_take (i := 4) (oi := { dst := some 148, op := Op.indexAddr 35 (Operand.tmp 146) (Operand.tmp 147), type := 0, pos := _, after := #[{ on := 2, ground := Ground.data }, { on := 3, ground := Ground.data }], guard := none }) (v := _) rfl (by kernel_rfl) (by kernel_rfl) (by kernel_rfl) (by kernel_rfl) (fun _ _ _ h => h) (by assumption) (Or.inl ⟨by rfl, ?hy620⟩) (fun _ => rfl) ?rest620
        case hy620 => (intro w hSw; (try dsimp only at hSw); go_simp; try with_reducible rfl)
        try simp only [Act.put, List.setIfInBounds_toArray, List.set_cons_zero, List.set_cons_succ]
        refine' ordS_take (i := 5) (oi := { dst := some 149, op := Op.load 30 (Operand.tmp 148), type := 30, pos := _, after := #[{ on := 4, ground := Ground.data }], guard := none }) (v := _) rfl (by kernel_rfl) (by kernel_rfl) (by kernel_rfl) (by kernel_rfl) (fun _ _ _ h => h) (by assumption) (Or.inl ⟨by rfl, ?hy621⟩) (fun _ => rfl) ?rest621
        case hy621 => (intro w hSw; (try dsimp only at hSw); go_simp; try with_reducible rfl)
        try simp only [Act.put, List.setIfInBounds_toArray, List.set_cons_zero, List.set_cons_succ]
        obtain ⟨X3, hX3⟩ : ∃ X3, X2.drew = X3 := ⟨_, rfl⟩
        rw [hX3] at hD
        rw [hX3]
        clear hX3
        clear hH
        have hBX3 := bl_tr hBX2 hD
        refine ordS_one (i := 6) (o := { dst := some 150, op := Op.call { callee := Callee.value (Operand.func 23), args := #[Operand.tmp 144, Operand.tmp 149], argTypes := #[26, 30] }, type := 65, pos := _, after := #[{ on := 0, ground := Ground.data }, { on := 5, ground := Ground.data }], guard := none }) (by kernel_rfl) rfl (by rfl) (fun K hK => ?_)
        go_simp
        refine ⟨trivial, ?_⟩
        with_reducible refine (callsIn_wide.2 (HFRM.out _ (HR.out _ hBX3) (HS.out _ hBX3))).mono ?_
        rintro e X4 ⟨⟨wa, wcap, l, rfl, hru, -, hy⟩, hb⟩
        obtain ⟨hll, hfar⟩ := hy (by first | rfl | trivial)
        rw [hll]
        have hD4 := bl_tr hD hb
        have hS4 : (fun W9 : World => W9.cell? ⟨w.heap.size, 0, none⟩ = some (.int .i64 A) ∧ W9.cell? ⟨w.heap.size, 1, none⟩ = some (.int .i64 B) ∧ W9.cell? ⟨w.heap.size, 2, none⟩ = some (.slice (some ⟨fb, fo, none⟩) zs.length cap) ∧ W9.cell? ⟨w.heap.size + 1 + 1, 1, none⟩ = some (.slice (some ⟨cb, co, none⟩) cs.length cc) ∧ W9.cell? ⟨cb, co + i * 2, none⟩ = some (.int .i64 d.1) ∧ W9.cell? ⟨cb, co + i * 2 + 1, none⟩ = some (.int .i64 d.2)) X4 := ⟨cell_later hD4 f0, cell_later hD4 f1, cell_later hD4 f2, cell_later hD4 c1, cell_later hD4 q0, cell_later hD4 q1⟩
        refine hK _ _ hS4 ?_
        clear hK K
        try simp only [Act.put, List.setIfInBounds_toArray, List.set_cons_zero, List.set_cons_succ]
        refine' ordS_take (i := 7) (oi := { dst := some 143, op := Op.move (Operand.tmp 150), type := 65, pos := _, after := #[{ on := 6, ground := Ground.data }], guard := none }) (v := _) rfl (by kernel_rfl) (by kernel_rfl) (by kernel_rfl) (by kernel_rfl) (fun _ _ _ h => h) (by assumption) (Or.inl ⟨by rfl, ?hy622⟩) (fun _ => rfl) ?rest622
        case hy622 => (intro w hSw; (try dsimp only at hSw); go_simp; try with_reducible rfl)
        try simp only [Act.put, List.setIfInBounds_toArray, List.set_cons_zero, List.set_cons_succ]
        refine' ordS_take (i := 8) (oi := { dst := some 151, op := Op.extract (Operand.tmp 143) 0, type := 42, pos := _, after := #[{ on := 7, ground := Ground.data }], guard := none }) (v := _) rfl (by kernel_rfl) (by kernel_rfl) (by kernel_rfl) (by kernel_rfl) (fun _ _ _ h => h) (by assumption) (Or.inl ⟨by rfl, ?hy623⟩) (fun _ => rfl) ?rest623
        case hy623 => (intro w hSw; (try dsimp only at hSw); go_simp; try with_reducible rfl)
        try simp only [Act.put, List.setIfInBounds_toArray, List.set_cons_zero, List.set_cons_succ]
        refine' ordS_take (i := 9) (oi := { dst := some 152, op := Op.extract (Operand.tmp 143) 1, type := 37, pos := _, after := #[{ on := 7, ground := Ground.data }, { on := 10, ground := Ground.gcOnly Departure.lateStores }], guard := none }) (v := _) rfl (by kernel_rfl) (by kernel_rfl) (by kernel_rfl) (by kernel_rfl) (fun _ _ _ h => h) (by assumption) (Or.inl ⟨by rfl, ?hy624⟩) (fun _ => rfl) ?rest624
        case hy624 => (intro w hSw; (try dsimp only at hSw); go_simp; try with_reducible rfl)
        try simp only [Act.put, List.setIfInBounds_toArray, List.set_cons_zero, List.set_cons_succ]
        refine' ordS_take (i := 10) (oi := { dst := some 12, op := Op.assign (Operand.tmp 151), type := 42, pos := _, after := #[{ on := 8, ground := Ground.data }, { on := 6, ground := Ground.chain }, { on := 0, ground := Ground.phase }, { on := 1, ground := Ground.phase }, { on := 2, ground := Ground.phase }, { on := 3, ground := Ground.phase }, { on := 4, ground := Ground.phase }, { on := 5, ground := Ground.phase }, { on := 6, ground := Ground.phase }, { on := 7, ground := Ground.phase }, { on := 8, ground := Ground.phase }, { on := 9, ground := Ground.textOnly Departure.lateStores }], guard := none }) (v := _) rfl (by kernel_rfl) (by kernel_rfl) (by kernel_rfl) (by kernel_rfl) (fun _ _ _ h => h) (by assumption) (Or.inl ⟨by rfl, ?hy625⟩) (fun _ => rfl) ?rest625
        case hy625 => (intro w hSw; (try dsimp only at hSw); go_simp; try with_reducible rfl)
        try simp only [Act.put, List.setIfInBounds_toArray, List.set_cons_zero, List.set_cons_succ]
        refine' ordS_take (i := 11) (oi := { dst := some 13, op := Op.assign (Operand.tmp 152), type := 37, pos := _, after := #[{ on := 9, ground := Ground.data }, { on := 10, ground := Ground.chain }, { on := 0, ground := Ground.phase }, { on := 1, ground := Ground.phase }, { on := 2, ground := Ground.phase }, { on := 3, ground := Ground.phase }, { on := 4, ground := Ground.phase }, { on := 5, ground := Ground.phase }, { on := 6, ground := Ground.phase }, { on := 7, ground := Ground.phase }, { on := 8, ground := Ground.phase }, { on := 9, ground := Ground.phase }, { on := 10, ground := Ground.phase }], guard := none }) (v := _) rfl (by kernel_rfl) (by kernel_rfl) (by kernel_rfl) (by kernel_rfl) (fun _ _ _ h => h) (by assumption) (Or.inl ⟨by rfl, ?hy626⟩) (fun _ => rfl) ?rest626
        case hy626 => (intro w hSw; (try dsimp only at hSw); go_simp; try with_reducible rfl)
        try simp only [Act.put, List.setIfInBounds_toArray, List.set_cons_zero, List.set_cons_succ]
        refine ordS_done (by kernel_rfl) ?_
        have hBX4 := bl_tr hBX3 hb
        replace f2 := cell_later hD4 f2
        replace c1 := cell_later hD4 c1
        replace t1 := cell_later hD4 t1
        replace r1 := cell_later hD4 r1
        have zf2 := blk_lt f2
        have zt1 := blk_lt t1
        have HRI4 := Lib.hid (HRI2.out.below hD4)
        have HWH := Lib.hid (VF.out.whole i hlt TB[i] (List.getElem?_eq_getElem hiT) l hll (by rw [hdn]; exact hfar))
        have HRU := Lib.hid hru
        have HLL := Lib.hid hll
        clear hS4 hD hb hy hfar hru hll hD4 hBX3
        go_upto_region 20 with fail
        have hD := bl_dr (bl0 X4)
        refine (wpIn_wide (n := 11)).1 ?_
        refine ordS_begin (S := (fun W9 : World => W9.cell? ⟨w2.heap.size, 1, none⟩ = some (.slice (some ⟨tb, tq, none⟩) cs.length tc) ∧ W9.cell? ⟨tb, tq + i, none⟩ = some (.slice (some ⟨sb, so, none⟩) cs.length sc))) (by kernel_rfl) ⟨cell_later hD t1, cell_later hD r1⟩ (fun hH => ?_)
        refine' ordS_take (i := 0) (oi := { dst := some 164, op := Op.fieldAddr 54 (Operand.tmp 7) 1, type := 0, pos := _, after := #[], guard := none }) (v := _) rfl (by kernel_rfl) (by kernel_rfl) (by kernel_rfl) (by kernel_rfl) (fun _ _ _ h => h) (by assumption) (Or.inl ⟨by rfl, ?hy627⟩) (fun _ => rfl) ?rest627
        case hy627 => (intro w hSw; (try dsimp only at hSw); go_simp; try with_reducible rfl)
        try simp only [Act.put, List.setIfInBounds_toArray, List.set_cons_zero, List.set_cons_succ]
        refine' ordS_take (i := 1) (oi := { dst := some 165, op := Op.load 52 (Operand.tmp 164), type := 52, pos := _, after := #[{ on := 0, ground := Ground.data }], guard := none }) (v := _) rfl (by kernel_rfl) (by kernel_rfl) (by kernel_rfl) (by kernel_rfl) (fun _ _ _ h => h) (by assumption) (Or.inl ⟨by rfl, ?hy628⟩) (fun _ => rfl) ?rest628
        case hy628 => (intro w hSw; (try dsimp only at hSw); go_simp; try with_reducible rfl)
        try simp only [Act.put, List.setIfInBounds_toArray, List.set_cons_zero, List.set_cons_succ]
        refine' ordS_take (i := 2) (oi := { dst := some 166, op := Op.move (Operand.tmp 10), type := 3, pos := _, after := #[], guard := none }) (v := _) rfl (by kernel_rfl) (by kernel_rfl) (by kernel_rfl) (by kernel_rfl) (fun _ _ _ h => h) (by assumption) (Or.inl ⟨by rfl, ?hy629⟩) (fun _ => rfl) ?rest629
        case hy629 => (intro w hSw; (try dsimp only at hSw); go_simp; try with_reducible rfl)
        try simp only [Act.put, List.setIfInBounds_toArray, List.set_cons_zero, List.set_cons_succ]
        refine' ordS_take (i := 3) (oi := { dst := some 167, op := Op.indexAddr 52 (Operand.tmp 165) (Operand.tmp 166), type := 0, pos := _, after := #[{ on := 1, ground := Ground.data }, { on := 2, ground := Ground.data }], guard := none }) (v := _) rfl (by kernel_rfl) (by kernel_rfl) (by kernel_rfl) (by kernel_rfl) (fun _ _ _ h => h) (by assumption) (Or.inl ⟨by rfl, ?hy630⟩) (fun _ => rfl) ?rest630
        case hy630 => (intro w hSw; (try dsimp only at hSw); go_simp; try with_reducible rfl)
        try simp only [Act.put, List.setIfInBounds_toArray, List.set_cons_zero, List.set_cons_succ]
        refine' ordS_take (i := 4) (oi := { dst := some 168, op := Op.load 42 (Operand.tmp 167), type := 42, pos := _, after := #[{ on := 3, ground := Ground.data }], guard := none }) (v := _) rfl (by kernel_rfl) (by kernel_rfl) (by kernel_rfl) (by kernel_rfl) (fun _ _ _ h => h) (by assumption) (Or.inl ⟨by rfl, ?hy631⟩) (fun _ => rfl) ?rest631
        case hy631 => (intro w hSw; (try dsimp only at hSw); go_simp; try with_reducible rfl)
        try simp only [Act.put, List.setIfInBounds_toArray, List.set_cons_zero, List.set_cons_succ]
        refine' ordS_take (i := 5) (oi := { dst := some 169, op := Op.fieldAddr 54 (Operand.tmp 7) 1, type := 0, pos := _, after := #[], guard := none }) (v := _) rfl (by kernel_rfl) (by kernel_rfl) (by kernel_rfl) (by kernel_rfl) (fun _ _ _ h => h) (by assumption) (Or.inl ⟨by rfl, ?hy632⟩) (fun _ => rfl) ?rest632
        case hy632 => (intro w hSw; (try dsimp only at hSw); go_simp; try with_reducible rfl)
        try simp only [Act.put, List.setIfInBounds_toArray, List.set_cons_zero, List.set_cons_succ]
        refine' ordS_take (i := 6) (oi := { dst := some 170, op := Op.load 52 (Operand.tmp 169), type := 52, pos := _, after := #[{ on := 5, ground := Ground.data }], guard := none }) (v := _) rfl (by kernel_rfl) (by kernel_rfl) (by kernel_rfl) (by kernel_rfl) (fun _ _ _ h => h) (by assumption) (Or.inl ⟨by rfl, ?hy633⟩) (fun _ => rfl) ?rest633
        case hy633 => (intro w hSw; (try dsimp only at hSw); go_simp; try with_reducible rfl)
        try simp only [Act.put, List.setIfInBounds_toArray, List.set_cons_zero, List.set_cons_succ]
        obtain ⟨X5, hX5⟩ : ∃ X5, X4.drew = X5 := ⟨_, rfl⟩
        rw [hX5] at hD
        rw [hX5]
        clear hX5
        clear hH
        have hBX5 := bl_tr hBX4 hD
        refine ordS_one (i := 7) (o := { dst := some 171, op := Op.call { callee := Callee.value (Operand.func 24), args := #[Operand.tmp 168, Operand.tmp 170], argTypes := #[42, 52] }, type := 65, pos := _, after := #[{ on := 4, ground := Ground.data }, { on := 6, ground := Ground.data }], guard := none }) (by kernel_rfl) rfl (by rfl) (fun K hK => ?_)
        go_simp
        refine ⟨trivial, ?_⟩
        with_reducible refine (callsIn_wide.2 (HVQ.out _ (HRI4.out.below hD) (HTD.out _ hBX5))).mono ?_
        rintro e X6 ⟨zv, rfl, hvr, hb⟩
        have hD6 := bl_tr hD hb
        have hS6 : (fun W9 : World => W9.cell? ⟨w2.heap.size, 1, none⟩ = some (.slice (some ⟨tb, tq, none⟩) cs.length tc) ∧ W9.cell? ⟨tb, tq + i, none⟩ = some (.slice (some ⟨sb, so, none⟩) cs.length sc)) X6 := ⟨cell_later hD6 t1, cell_later hD6 r1⟩
        refine hK _ _ hS6 ?_
        clear hK K
        try simp only [Act.put, List.setIfInBounds_toArray, List.set_cons_zero, List.set_cons_succ]
        refine' ordS_take (i := 8) (oi := { dst := some 163, op := Op.move (Operand.tmp 171), type := 65, pos := _, after := #[{ on := 7, ground := Ground.data }], guard := none }) (v := _) rfl (by kernel_rfl) (by kernel_rfl) (by kernel_rfl) (by kernel_rfl) (fun _ _ _ h => h) (by assumption) (Or.inl ⟨by rfl, ?hy634⟩) (fun _ => rfl) ?rest634
        case hy634 => (intro w hSw; (try dsimp only at hSw); go_simp; try with_reducible rfl)
        try simp only [Act.put, List.setIfInBounds_toArray, List.set_cons_zero, List.set_cons_succ]
        refine' ordS_take (i := 9) (oi := { dst := some 172, op := Op.extract (Operand.tmp 163) 0, type := 42, pos := _, after := #[{ on := 8, ground := Ground.data }], guard := none }) (v := _) rfl (by kernel_rfl) (by kernel_rfl) (by kernel_rfl) (by kernel_rfl) (fun _ _ _ h => h) (by assumption) (Or.inl ⟨by rfl, ?hy635⟩) (fun _ => rfl) ?rest635
        case hy635 => (intro w hSw; (try dsimp only at hSw); go_simp; try with_reducible rfl)
        try simp only [Act.put, List.setIfInBounds_toArray, List.set_cons_zero, List.set_cons_succ]
        refine' ordS_take (i := 10) (oi := { dst := some 173, op := Op.extract (Operand.tmp 163) 1, type := 37, pos := _, after := #[{ on := 8, ground := Ground.data }, { on := 11, ground := Ground.gcOnly Departure.lateStores }], guard := none }) (v := _) rfl (by kernel_rfl) (by kernel_rfl) (by kernel_rfl) (by kernel_rfl) (fun _ _ _ h => h) (by assumption) (Or.inl ⟨by rfl, ?hy636⟩) (fun _ => rfl) ?rest636
        case hy636 => (intro w hSw; (try dsimp only at hSw); go_simp; try with_reducible rfl)
        try simp only [Act.put, List.setIfInBounds_toArray, List.set_cons_zero, List.set_cons_succ]
        refine' ordS_take (i := 11) (oi := { dst := some 14, op := Op.assign (Operand.tmp 172), type := 42, pos := _, after := #[{ on := 9, ground := Ground.data }, { on := 7, ground := Ground.chain }, { on := 0, ground := Ground.phase }, { on := 1, ground := Ground.phase }, { on := 2, ground := Ground.phase }, { on := 3, ground := Ground.phase }, { on := 4, ground := Ground.phase }, { on := 5, ground := Ground.phase }, { on := 6, ground := Ground.phase }, { on := 7, ground := Ground.phase }, { on := 8, ground := Ground.phase }, { on := 9, ground := Ground.phase }, { on := 10, ground := Ground.textOnly Departure.lateStores }], guard := none }) (v := _) rfl (by kernel_rfl) (by kernel_rfl) (by kernel_rfl) (by kernel_rfl) (fun _ _ _ h => h) (by assumption) (Or.inl ⟨by rfl, ?hy637⟩) (fun _ => rfl) ?rest637
        case hy637 => (intro w hSw; (try dsimp only at hSw); go_simp; try with_reducible rfl)
        try simp only [Act.put, List.setIfInBounds_toArray, List.set_cons_zero, List.set_cons_succ]
        refine' ordS_take (i := 12) (oi := { dst := some 15, op := Op.assign (Operand.tmp 173), type := 37, pos := _, after := #[{ on := 10, ground := Ground.data }, { on := 11, ground := Ground.chain }, { on := 0, ground := Ground.phase }, { on := 1, ground := Ground.phase }, { on := 2, ground := Ground.phase }, { on := 3, ground := Ground.phase }, { on := 4, ground := Ground.phase }, { on := 5, ground := Ground.phase }, { on := 6, ground := Ground.phase }, { on := 7, ground := Ground.phase }, { on := 8, ground := Ground.phase }, { on := 9, ground := Ground.phase }, { on := 10, ground := Ground.phase }, { on := 11, ground := Ground.phase }], guard := none }) (v := _) rfl (by kernel_rfl) (by kernel_rfl) (by kernel_rfl) (by kernel_rfl) (fun _ _ _ h => h) (by assumption) (Or.inl ⟨by rfl, ?hy638⟩) (fun _ => rfl) ?rest638
        case hy638 => (intro w hSw; (try dsimp only at hSw); go_simp; try with_reducible rfl)
        try simp only [Act.put, List.setIfInBounds_toArray, List.set_cons_zero, List.set_cons_succ]
        refine ordS_done (by kernel_rfl) ?_
        have hBX6 := bl_tr hBX5 hb
        rw [HVL.out] at hvr
        have HZV := Lib.hid hvr
        have HRU6 := Lib.hid (HRU.out.below hD6)
        have HBX6 := Lib.hid hBX6
        have HR16 := Lib.hid (fun W8 (h : Below X6.heap.size X6 W8) => cell_later h (cell_later hD6 r1))
        have HRI6 := Lib.hid (HRI4.out.below hD6)
        clear hS6 hD hb hvr hD6 hBX5 hBX4 hBX6
        go_wp2_with fail
        clear f0 f1 f2 c1 t1 q0 q1 r1 zf0 zc1 zt1 zr1 zf2 hBX2
        go_loopw [16, 17] (fun jv _ wq => ∃ j : Nat, j ≤ cs.length ∧ jv = .int .i64 j ∧ Below X6.heap.size X6 wq) (fun jv _ _ => cs.length - (intOf jv).toNat)
        case atStart => exact ⟨0, Nat.zero_le _, rfl, bl0 _⟩
        case round =>
          obtain ⟨wq, rfl⟩ : ∃ wq, wq = wr := ⟨_, rfl⟩
          obtain ⟨j, hj, rfl, hBq⟩ := hrel
          have hj0 : (0 : Int) ≤ (j : Int) := by omega
          have hB3q := bl_tr HBX6.out hBq
          by_cases hltj : j < cs.length
          · have hltj2 : (j : Int) < (cs.length : Int) := by omega
            obtain ⟨f0, f1, f2, c1, t1⟩ := HF.out _ hB3q
            obtain ⟨cb', co', e, j0, j1⟩ := (HC.out _ hB3q).cell hltj
            cases e
            obtain ⟨⟨hu1, hu2⟩, hjx, -⟩ := VF.out.on cs[j] (List.getElem_mem hltj)
            have hwh := HWH.out j hltj
            obtain ⟨dj, hdj⟩ : ∃ dj, cs[j] = dj := ⟨_, rfl⟩
            rw [hdj] at j0 j1 hu1 hu2 hjx hwh
            obtain ⟨jx, hjxe⟩ : ∃ jx, numN A dj = jx := ⟨_, rfl⟩
            rw [hjxe] at hu2 hjx hwh
            have r1 := HR16.out _ hBq
            obtain ⟨lb, lo, rfl, wl⟩ := (HRU6.out.below hBq).cell (show jx < l.length by rw [HLL.out]; exact hjx)
            obtain ⟨zb, zo, rfl, vj⟩ := (HZV.out.below hBq).cell (show j < TB[i].length by rw [HRL.out]; exact hltj)
            obtain ⟨sb', so', e, rj⟩ := (HRI6.out.below hBq).cell (show j < TB[i].length by rw [HRL.out]; exact hltj)
            cases e
            obtain ⟨v1, hv1e⟩ : ∃ v1, atD l jx = v1 := ⟨_, rfl⟩
            obtain ⟨v2, hv2e⟩ : ∃ v2, atD TB[i] j = v2 := ⟨_, rfl⟩
            rw [hv1e] at wl hwh
            rw [hv2e] at vj rj hwh
            have hgt : decide (v2 < v1) = false := decide_eq_false (by omega)
            have hvv : (v2 != v2) = false := by simp
            have y0 : (0 : Int) ≤ (jx : Int) := by omega
            have y1 : (jx : Int) < (zs.length : Int) := by omega
            have y2 : decide ((jx : Int) < 0) = false := decide_eq_false (by omega)
            have y3 : decide ((zs.length : Int) ≤ (jx : Int)) = false := decide_eq_false (by omega)
            have y4 : decide (zs.length ≤ jx) = false := decide_eq_false (by omega)
            have zf0 := blk_lt f0; have zc1 := blk_lt c1; have zt1 := blk_lt t1; have zr1 := blk_lt r1
            clear hdj hjxe hv1e hv2e hwh
            go_upto_region 26 with fail
            have hD := bl_dr (bl0 wq)
            refine (wpIn_wide (n := 11)).1 ?_
            refine ordS_begin (S := (fun W9 : World => W9.cell? ⟨w.heap.size + 1 + 1, 1, none⟩ = some (.slice (some ⟨cb, co, none⟩) cs.length cc) ∧ W9.cell? ⟨cb, co + j * 2, none⟩ = some (.int .i64 dj.1) ∧ W9.cell? ⟨cb, co + j * 2 + 1, none⟩ = some (.int .i64 dj.2) ∧ W9.cell? ⟨w.heap.size, 0, none⟩ = some (.int .i64 A))) (by kernel_rfl) ⟨cell_later hD c1, cell_later hD j0, cell_later hD j1, cell_later hD f0⟩ (fun hH => ?_)
            refine' ordS_take (i := 0) (oi := { dst := some 187, op := Op.fieldAddr 50 (Operand.tmp 5) 1, type := 0, pos := _, after := #[], guard := none }) (v := _) rfl (by kernel_rfl) (by kernel_rfl) (by kernel_rfl) (by kernel_rfl) (fun _ _ _ h => h) (by assumption) (Or.inl ⟨by rfl, ?hy639⟩) (fun _ => rfl) ?rest639
            case hy639 => (intro w hSw; (try dsimp only at hSw); go_simp; try with_reducible rfl)
            try simp only [Act.put, List.setIfInBounds_toArray, List.set_cons_zero, List.set_cons_succ]
            refine' ordS_take (i := 1) (oi := { dst := some 188, op := Op.load 35 (Operand.tmp 187), type := 35, pos := _, after := #[{ on := 0, ground := Ground.data }], guard := none }) (v := _) rfl (by kernel_rfl) (by kernel_rfl) (by kernel_rfl) (by kernel_rfl) (fun _ _ _ h => h) (by assumption) (Or.inl ⟨by rfl, ?hy640⟩) (fun _ => rfl) ?rest640
            case hy640 => (intro w hSw; (try dsimp only at hSw); go_simp; try with_reducible rfl)
            try simp only [Act.put, List.setIfInBounds_toArray, List.set_cons_zero, List.set_cons_succ]
            refine' ordS_take (i := 2) (oi := { dst := some 189, op := Op.move (Operand.tmp 16), type := 3, pos := _, after := #[], guard := none }) (v := _) rfl (by kernel_rfl) (by kernel_rfl) (by kernel_rfl) (by kernel_rfl) (fun _ _ _ h => h) (by assumption) (Or.inl ⟨by rfl, ?hy641⟩) (fun _ => rfl) ?rest641
            case hy641 => (intro w hSw; (try dsimp only at hSw); go_simp; try with_reducible rfl)
            try simp only [Act.put, List.setIfInBounds_toArray, List.set_cons_zero, List.set_cons_succ]
            refine' ordS_take (i := 3) (oi := { dst := some 190, op := Op.indexAddr 35 (Operand.tmp 188) (Operand.tmp 189), type := 0, pos := _, after := #[{ on := 1, ground := Ground.data }, { on := 2, ground := Ground.data }], guard := none }) (v := _) rfl (by kernel_rfl) (by kernel_rfl) (by kernel_rfl) (by kernel_rfl) (fun _ _ _ h => h) (by assumption) (Or.inl ⟨by rfl, ?hy642⟩) (fun _ => rfl) ?rest642
            case hy642 => (intro w hSw; (try dsimp only at hSw); go_simp; try with_reducible rfl)
            try simp only [Act.put, List.setIfInBounds_toArray, List.set_cons_zero, List.set_cons_succ]
            refine' ordS_take (i := 4) (oi := { dst := some 191, op := Op.fieldAddr 30 (Operand.tmp 190) 1, type := 0, pos := _, after := #[{ on := 3, ground := Ground.data }], guard := none }) (v := _) rfl (by kernel_rfl) (by kernel_rfl) (by kernel_rfl) (by kernel_rfl) (fun _ _ _ h => h) (by assumption) (Or.inl ⟨by rfl, ?hy643⟩) (fun _ => rfl) ?rest643
            case hy643 => (intro w hSw; (try dsimp only at hSw); go_simp; try with_reducible rfl)
            try simp only [Act.put, List.setIfInBounds_toArray, List.set_cons_zero, List.set_cons_succ]
            refine' ordS_take (i := 5) (oi := { dst := some 192, op := Op.load 3 (Operand.tmp 191), type := 3, pos := _, after := #[{ on := 4, ground := Ground.data }], guard := none }) (v := _) rfl (by kernel_rfl) (by kernel_rfl) (by kernel_rfl) (by kernel_rfl) (fun _ _ _ h => h) (by assumption) (Or.inl ⟨by rfl, ?hy644⟩) (fun _ => rfl) ?rest644
            case hy644 => (intro w hSw; (try dsimp only at hSw); go_simp; try with_reducible rfl)
            try simp only [Act.put, List.setIfInBounds_toArray, List.set_cons_zero, List.set_cons_succ]
            refine' ordS_take (i := 6) (oi := { dst := some 193, op := Op.fieldAddr 26 (Operand.tmp 3) 0, type := 0, pos := _, after := #[], guard := none }) (v := _) rfl (by kernel_rfl) (by kernel_rfl) (by kernel_rfl) (by kernel_rfl) (fun _ _ _ h => h) (by assumption) (Or.inl ⟨by rfl, ?hy645⟩) (fun _ => rfl) ?rest645
            case hy645 => (intro w hSw; (try dsimp only at hSw); go_simp; try with_reducible rfl)
            try simp only [Act.put, List.setIfInBounds_toArray, List.set_cons_zero, List.set_cons_succ]
            refine' ordS_take (i := 7) (oi := { dst := some 194, op := Op.fieldAddr 23 (Operand.tmp 193) 0, type := 0, pos := _, after := #[{ on := 6, ground := Ground.data }], guard := none }) (v := _) rfl (by kernel_rfl) (by kernel_rfl) (by kernel_rfl) (by kernel_rfl) (fun _ _ _ h => h) (by assumption) (Or.inl ⟨by rfl, ?hy646⟩) (fun _ => rfl) ?rest646
            case hy646 => (intro w hSw; (try dsimp only at hSw); go_simp; try with_reducible rfl)
            try simp only [Act.put, List.setIfInBounds_toArray, List.set_cons_zero, List.set_cons_succ]
            refine' ordS_take (i := 8) (oi := { dst := some 195, op := Op.load 3 (Operand.tmp 194), type := 3, pos := _, after := #[{ on := 7, ground := Ground.data }], guard := none }) (v := _) rfl (by kernel_rfl) (by kernel_rfl) (by kernel_rfl) (by kernel_rfl) (fun _ _ _ h => h) (by assumption) (Or.inl ⟨by rfl, ?hy647⟩) (fun _ => rfl) ?rest647
            case hy647 => (intro w hSw; (try dsimp only at hSw); go_simp; try with_reducible rfl)
            try simp only [Act.put, List.setIfInBounds_toArray, List.set_cons_zero, List.set_cons_succ]
            refine' ordS_take (i := 9) (oi := { dst := some 196, op := Op.binOp BinOp.mul 3 (Operand.tmp 192) (Operand.tmp 195) 3, type := 3, pos := _, after := #[{ on := 5, ground := Ground.data }, { on := 8, ground := Ground.data }], guard := none }) (v := _) rfl (by kernel_rfl) (by kernel_rfl) (by kernel_rfl) (by kernel_rfl) (fun _ _ _ h => h) (by assumption) (Or.inl ⟨by rfl, ?hy648⟩) (fun _ => rfl) ?rest648
            case hy648 => (intro w hSw; (try dsimp only at hSw); go_simp; try with_reducible rfl)
            try simp only [Act.put, List.setIfInBounds_toArray, List.set_cons_zero, List.set_cons_succ]
            refine' ordS_take (i := 10) (oi := { dst := some 197, op := Op.fieldAddr 50 (Operand.tmp 5) 1, type := 0, pos := _, after := #[], guard := none }) (v := _) rfl (by kernel_rfl) (by kernel_rfl) (by kernel_rfl) (by kernel_rfl) (fun _ _ _ h => h) (by assumption) (Or.inl ⟨by rfl, ?hy649⟩) (fun _ => rfl) ?rest649
            case hy649 => (intro w hSw; (try dsimp only at hSw); go_simp; try with_reducible rfl)
            try simp only [Act.put, List.setIfInBounds_toArray, List.set_cons_zero, List.set_cons_succ]
            refine' ordS_take (i := 11) (oi := { dst := some 198, op := Op.load 35 (Operand.tmp 197), type := 35, pos := _, after := #[{ on := 10, ground := Ground.data }], guard := none }) (v := _) rfl (by kernel_rfl) (by kernel_rfl) (by kernel_rfl) (by kernel_rfl) (fun _ _ _ h => h) (by assumption) (Or.inl ⟨by rfl, ?hy650⟩) (fun _ => rfl) ?rest650
            case hy650 => (intro w hSw; (try dsimp only at hSw); go_simp; try with_reducible rfl)
            try simp only [Act.put, List.setIfInBounds_toArray, List.set_cons_zero, List.set_cons_succ]
            refine' ordS_take (i := 12) (oi := { dst := some 199, op := Op.move (Operand.tmp 16), type := 3, pos := _, after := #[], guard := none }) (v := _) rfl (by kernel_rfl) (by kernel_rfl) (by kernel_rfl) (by kernel_rfl) (fun _ _ _ h => h) (by assumption) (Or.inl ⟨by rfl, ?hy651⟩) (fun _ => rfl) ?rest651
            case hy651 => (intro w hSw; (try dsimp only at hSw); go_simp; try with_reducible rfl)
            try simp only [Act.put, List.setIfInBounds_toArray, List.set_cons_zero, List.set_cons_succ]
            refine' ordS_take (i := 13) (oi := { dst := some 200, op := Op.indexAddr 35 (Operand.tmp 198) (Operand.tmp 199), type := 0, pos := _, after := #[{ on := 11, ground := Ground.data }, { on := 12, ground := Ground.data }], guard := none }) (v := _) rfl (by kernel_rfl) (by kernel_rfl) (by kernel_rfl) (by kernel_rfl) (fun _ _ _ h => h) (by assumption) (Or.inl ⟨by rfl, ?hy652⟩) (fun _ => rfl) ?rest652
            case hy652 => (intro w hSw; (try dsimp only at hSw); go_simp; try with_reducible rfl)
            try simp only [Act.put, List.setIfInBounds_toArray, List.set_cons_zero, List.set_cons_succ]
            refine' ordS_take (i := 14) (oi := { dst := some 201, op := Op.fieldAddr 30 (Operand.tmp 200) 0, type := 0, pos := _, after := #[{ on := 13, ground := Ground.data }], guard := none }) (v := _) rfl (by kernel_rfl) (by kernel_rfl) (by kernel_rfl) (by kernel_rfl) (fun _ _ _ h => h) (by assumption) (Or.inl ⟨by rfl, ?hy653⟩) (fun _ => rfl) ?rest653
            case hy653 => (intro w hSw; (try dsimp only at hSw); go_simp; try with_reducible rfl)
            try simp only [Act.put, List.setIfInBounds_toArray, List.set_cons_zero, List.set_cons_succ]
            refine' ordS_take (i := 15) (oi := { dst := some 202, op := Op.load 3 (Operand.tmp 201), type := 3, pos := _, after := #[{ on := 14, ground := Ground.data }], guard := none }) (v := _) rfl (by kernel_rfl) (by kernel_rfl) (by kernel_rfl) (by kernel_rfl) (fun _ _ _ h => h) (by assumption) (Or.inl ⟨by rfl, ?hy654⟩) (fun _ => rfl) ?rest654
            case hy654 => (intro w hSw; (try dsimp only at hSw); go_simp; try with_reducible rfl)
            try simp only [Act.put, List.setIfInBounds_toArray, List.set_cons_zero, List.set_cons_succ]
            refine' ordS_take (i := 16) (oi := { dst := some 203, op := Op.binOp BinOp.add 3 (Operand.tmp 196) (Operand.tmp 202) 3, type := 3, pos := _, after := #[{ on := 9, ground := Ground.data }, { on := 15, ground := Ground.data }], guard := none }) (v := _) rfl (by kernel_rfl) (by kernel_rfl) (by kernel_rfl) (by kernel_rfl) (fun _ _ _ h => h) (by assumption) (Or.inl ⟨by rfl, ?hy655⟩) (fun _ => rfl) ?rest655
            case hy655 => (intro w hSw; (try dsimp only at hSw); go_simp; try with_reducible rfl)
            try simp only [Act.put, List.setIfInBounds_toArray, List.set_cons_zero, List.set_cons_succ]
            refine' ordS_take (i := 17) (oi := { dst := some 17, op := Op.assign (Operand.tmp 203), type := 3, pos := _, after := #[{ on := 16, ground := Ground.data }, { on := 0, ground := Ground.phase }, { on := 1, ground := Ground.phase }, { on := 2, ground := Ground.phase }, { on := 3, ground := Ground.phase }, { on := 4, ground := Ground.phase }, { on := 5, ground := Ground.phase }, { on := 6, ground := Ground.phase }, { on := 7, ground := Ground.phase }, { on := 8, ground := Ground.phase }, { on := 9, ground := Ground.phase }, { on := 10, ground := Ground.phase }, { on := 11, ground := Ground.phase }, { on := 12, ground := Ground.phase }, { on := 13, ground := Ground.phase }, { on := 14, ground := Ground.phase }, { on := 15, ground := Ground.phase }, { on := 16, ground := Ground.phase }], guard := none }) (v := _) rfl (by kernel_rfl) (by kernel_rfl) (by kernel_rfl) (by kernel_rfl) (fun _ _ _ h => h) (by assumption) (Or.inl ⟨by rfl, ?hy656⟩) (fun _ => rfl) ?rest656
            case hy656 => (intro w hSw; (try dsimp only at hSw); go_simp; try with_reducible rfl)
            try simp only [Act.put, List.setIfInBounds_toArray, List.set_cons_zero, List.set_cons_succ]
            refine ordS_done (by kernel_rfl) ?_
            obtain ⟨Y1, hY1⟩ : ∃ Y1, wq.drew = Y1 := ⟨_, rfl⟩
            rw [hY1] at hD
            rw [hY1]
            clear hY1
            clear hH
            replace t1 := cell_later hD t1; replace r1 := cell_later hD r1; replace rj := cell_later hD rj; replace wl := cell_later hD wl; replace vj := cell_later hD vj
            have hBY1 := bl_tr hBq hD
            clear hD zf0 zc1 zt1 zr1 f0 f1 f2 c1 j0 j1
            go_upto_region 27 with fail
            have hD := bl_dr (bl0 Y1)
            refine (wpIn_wide (n := 11)).1 ?_
            refine ordS_begin (S := (fun W9 : World => W9.cell? ⟨w2.heap.size, 1, none⟩ = some (.slice (some ⟨tb, tq, none⟩) cs.length tc) ∧ W9.cell? ⟨tb, tq + i, none⟩ = some (.slice (some ⟨sb, so, none⟩) cs.length sc) ∧ W9.cell? ⟨sb, so + j, none⟩ = some (.int .u64 v2) ∧ W9.cell? ⟨lb, lo + jx, none⟩ = some (.int .u64 v1) ∧ W9.cell? ⟨zb, zo + j, none⟩ = some (.int .u64 v2))) (by kernel_rfl) ⟨cell_later hD t1, cell_later hD r1, cell_later hD rj, cell_later hD wl, cell_later hD vj⟩ (fun hH => ?_)
            refine' ordS_take (i := 0) (oi := { dst := some 204, op := Op.move (Operand.tmp 17), type := 3, pos := _, after := #[], guard := none }) (v := _) rfl (by kernel_rfl) (by kernel_rfl) (by kernel_rfl) (by kernel_rfl) (fun _ _ _ h => h) (by assumption) (Or.inl ⟨by rfl, ?hy657⟩) (fun _ => rfl) ?rest657
            case hy657 => (intro w hSw; (try dsimp only at hSw); go_simp; try with_reducible rfl)
            try simp only [Act.put, List.setIfInBounds_toArray, List.set_cons_zero, List.set_cons_succ]
            refine' ordS_take (i := 1) (oi := { dst := some 205, op := Op.binOp BinOp.lss 3 (Operand.tmp 204) (Operand.const (Value.int IntKind.i64 0)) 3, type := 4, pos := _, after := #[{ on := 0, ground := Ground.data }], guard := none }) (v := _) rfl (by kernel_rfl) (by kernel_rfl) (by kernel_rfl) (by kernel_rfl) (fun _ _ _ h => h) (by assumption) (Or.inl ⟨by rfl, ?hy658⟩) (fun _ => rfl) ?rest658
            case hy658 => (intro w hSw; (try dsimp only at hSw); go_simp; try with_reducible rfl)
            try simp only [Act.put, List.setIfInBounds_toArray, List.set_cons_zero, List.set_cons_succ]
            refine' ordS_take (i := 2) (oi := { dst := some 206, op := Op.move (Operand.tmp 205), type := 4, pos := _, after := #[{ on := 1, ground := Ground.data }], guard := none }) (v := _) rfl (by kernel_rfl) (by kernel_rfl) (by kernel_rfl) (by kernel_rfl) (fun _ _ _ h => h) (by assumption) (Or.inl ⟨by rfl, ?hy659⟩) (fun _ => rfl) ?rest659
            case hy659 => (intro w hSw; (try dsimp only at hSw); go_simp; try with_reducible rfl)
            try simp only [Act.put, List.setIfInBounds_toArray, List.set_cons_zero, List.set_cons_succ]
            refine' ordS_take (i := 3) (oi := { dst := some 207, op := Op.move (Operand.tmp 17), type := 3, pos := _, after := #[{ on := 2, ground := Ground.guard }], guard := some (2, false) }) (v := _) rfl (by kernel_rfl) (by kernel_rfl) (by kernel_rfl) (by kernel_rfl) (fun _ _ _ h => h) (by assumption) (Or.inl ⟨by rfl, ?hy660⟩) (fun _ => rfl) ?rest660
            case hy660 => (intro w hSw; (try dsimp only at hSw); go_simp; try with_reducible rfl)
            try simp only [Act.put, List.setIfInBounds_toArray, List.set_cons_zero, List.set_cons_succ]
            refine' ordS_take (i := 4) (oi := { dst := some 208, op := Op.move (Operand.tmp 12), type := 42, pos := _, after := #[{ on := 2, ground := Ground.guard }], guard := some (2, false) }) (v := _) rfl (by kernel_rfl) (by kernel_rfl) (by kernel_rfl) (by kernel_rfl) (fun _ _ _ h => h) (by assumption) (Or.inl ⟨by rfl, ?hy661⟩) (fun _ => rfl) ?rest661
            case hy661 => (intro w hSw; (try dsimp only at hSw); go_simp; try with_reducible rfl)
            try simp only [Act.put, List.setIfInBounds_toArray, List.set_cons_zero, List.set_cons_succ]
            refine' ordS_take (i := 5) (oi := { dst := some 209, op := Op.call { callee := Callee.builtin Builtin.len, args := #[Operand.tmp 208], argTypes := #[42] }, type := 3, pos := _, after := #[{ on := 4, ground := Ground.data }, { on := 2, ground := Ground.guard }], guard := some (2, false) }) (v := _) rfl (by kernel_rfl) (by kernel_rfl) (by kernel_rfl) (by kernel_rfl) (fun _ _ _ h => h) (by assumption) (Or.inl ⟨by rfl, ?hy662⟩) (fun _ => rfl) ?rest662
            case hy662 => (intro w hSw; (try dsimp only at hSw); go_simp; try with_reducible rfl)
            try simp only [Act.put, List.setIfInBounds_toArray, List.set_cons_zero, List.set_cons_succ]
            refine' ordS_take (i := 6) (oi := { dst := some 210, op := Op.binOp BinOp.geq 3 (Operand.tmp 207) (Operand.tmp 209) 3, type := 4, pos := _, after := #[{ on := 3, ground := Ground.data }, { on := 5, ground := Ground.data }, { on := 2, ground := Ground.guard }], guard := some (2, false) }) (v := _) rfl (by kernel_rfl) (by kernel_rfl) (by kernel_rfl) (by kernel_rfl) (fun _ _ _ h => h) (by assumption) (Or.inl ⟨by rfl, ?hy663⟩) (fun _ => rfl) ?rest663
            case hy663 => (intro w hSw; (try dsimp only at hSw); go_simp; try with_reducible rfl)
            try simp only [Act.put, List.setIfInBounds_toArray, List.set_cons_zero, List.set_cons_succ]
            refine' ordS_take (i := 7) (oi := { dst := some 211, op := Op.pick (Operand.tmp 206) (Operand.const (Value.bool true)) (Operand.tmp 210), type := 4, pos := _, after := #[{ on := 2, ground := Ground.data }, { on := 6, ground := Ground.data }], guard := none }) (v := _) rfl (by kernel_rfl) (by kernel_rfl) (by kernel_rfl) (by kernel_rfl) (fun _ _ _ h => h) (by assumption) (Or.inl ⟨by rfl, ?hy664⟩) (fun _ => rfl) ?rest664
            case hy664 => (intro w hSw; (try dsimp only at hSw); go_simp; try with_reducible rfl)
            try simp only [Act.put, List.setIfInBounds_toArray, List.set_cons_zero, List.set_cons_succ]
            refine' ordS_take (i := 8) (oi := { dst := some 212, op := Op.move (Operand.tmp 211), type := 4, pos := _, after := #[{ on := 7, ground := Ground.data }, { on := 2, ground := Ground.chain }], guard := none }) (v := _) rfl (by kernel_rfl) (by kernel_rfl) (by kernel_rfl) (by kernel_rfl) (fun _ _ _ h => h) (by assumption) (Or.inl ⟨by rfl, ?hy665⟩) (fun _ => rfl) ?rest665
            case hy665 => (intro w hSw; (try dsimp only at hSw); go_simp; try with_reducible rfl)
            try simp only [Act.put, List.setIfInBounds_toArray, List.set_cons_zero, List.set_cons_succ]
            refine' ordS_take (i := 9) (oi := { dst := some 213, op := Op.move (Operand.tmp 12), type := 42, pos := _, after := #[{ on := 8, ground := Ground.guard }], guard := some (8, false) }) (v := _) rfl (by kernel_rfl) (by kernel_rfl) (by kernel_rfl) (by kernel_rfl) (fun _ _ _ h => h) (by assumption) (Or.inl ⟨by rfl, ?hy666⟩) (fun _ => rfl) ?rest666
            case hy666 => (intro w hSw; (try dsimp only at hSw); go_simp; try with_reducible rfl)
            try simp only [Act.put, List.setIfInBounds_toArray, List.set_cons_zero, List.set_cons_succ]
            refine' ordS_take (i := 10) (oi := { dst := some 214, op := Op.move (Operand.tmp 17), type := 3, pos := _, after := #[{ on := 8, ground := Ground.guard }], guard := some (8, false) }) (v := _) rfl (by kernel_rfl) (by kernel_rfl) (by kernel_rfl) (by kernel_rfl) (fun _ _ _ h => h) (by assumption) (Or.inl ⟨by rfl, ?hy667⟩) (fun _ => rfl) ?rest667
            case hy667 => (intro w hSw; (try dsimp only at hSw); go_simp; try with_reducible rfl)
            try simp only [Act.put, List.setIfInBounds_toArray, List.set_cons_zero, List.set_cons_succ]
            refine' ordS_take (i := 11) (oi := { dst := some 215, op := Op.indexAddr 42 (Operand.tmp 213) (Operand.tmp 214), type := 0, pos := _, after := #[{ on := 9, ground := Ground.data }, { on := 10, ground := Ground.data }, { on := 8, ground := Ground.guard }], guard := some (8, false) }) (v := _) rfl (by kernel_rfl) (by kernel_rfl) (by kernel_rfl) (by kernel_rfl) (fun _ _ _ h => h) (by assumption) (Or.inl ⟨by rfl, ?hy668⟩) (fun _ => rfl) ?rest668
            case hy668 => (intro w hSw; (try dsimp only at hSw); go_simp; try with_reducible rfl)
            try simp only [Act.put, List.setIfInBounds_toArray, List.set_cons_zero, List.set_cons_succ]
            refine' ordS_take (i := 12) (oi := { dst := some 216, op := Op.load 36 (Operand.tmp 215), type := 36, pos := _, after := #[{ on := 11, ground := Ground.data }, { on := 8, ground := Ground.guard }], guard := some (8, false) }) (v := _) rfl (by kernel_rfl) (by kernel_rfl) (by kernel_rfl) (by kernel_rfl) (fun _ _ _ h => h) (by assumption) (Or.inl ⟨by rfl, ?hy669⟩) (fun _ => rfl) ?rest669
            case hy669 => (intro w hSw; (try dsimp only at hSw); go_simp; try with_reducible rfl)
            try simp only [Act.put, List.setIfInBounds_toArray, List.set_cons_zero, List.set_cons_succ]
            refine' ordS_take (i := 13) (oi := { dst := some 217, op := Op.fieldAddr 54 (Operand.tmp 7) 1, type := 0, pos := _, after := #[{ on := 8, ground := Ground.guard }], guard := some (8, false) }) (v := _) rfl (by kernel_rfl) (by kernel_rfl) (by kernel_rfl) (by kernel_rfl) (fun _ _ _ h => h) (by assumption) (Or.inl ⟨by rfl, ?hy670⟩) (fun _ => rfl) ?rest670
            case hy670 => (intro w hSw; (try dsimp only at hSw); go_simp; try with_reducible rfl)
            try simp only [Act.put, List.setIfInBounds_toArray, List.set_cons_zero, List.set_cons_succ]
            refine' ordS_take (i := 14) (oi := { dst := some 218, op := Op.load 52 (Operand.tmp 217), type := 52, pos := _, after := #[{ on := 13, ground := Ground.data }, { on := 8, ground := Ground.guard }], guard := some (8, false) }) (v := _) rfl (by kernel_rfl) (by kernel_rfl) (by kernel_rfl) (by kernel_rfl) (fun _ _ _ h => h) (by assumption) (Or.inl ⟨by rfl, ?hy671⟩) (fun _ => rfl) ?rest671
            case hy671 => (intro w hSw; (try dsimp only at hSw); go_simp; try with_reducible rfl)
            try simp only [Act.put, List.setIfInBounds_toArray, List.set_cons_zero, List.set_cons_succ]
            refine' ordS_take (i := 15) (oi := { dst := some 219, op := Op.move (Operand.tmp 10), type := 3, pos := _, after := #[{ on := 8, ground := Ground.guard }], guard := some (8, false) }) (v := _) rfl (by kernel_rfl) (by kernel_rfl) (by kernel_rfl) (by kernel_rfl) (fun _ _ _ h => h) (by assumption) (Or.inl ⟨by rfl, ?hy672⟩) (fun _ => rfl) ?rest672
            case hy672 => (intro w hSw; (try dsimp only at hSw); go_simp; try with_reducible rfl)
            try simp only [Act.put, List.setIfInBounds_toArray, List.set_cons_zero, List.set_cons_succ]
            refine' ordS_take (i := 16) (oi := { dst := some 220, op := Op.indexAddr 52 (Operand.tmp 218) (Operand.tmp 219), type := 0, pos := _, after := #[{ on := 14, ground := Ground.data }, { on := 15, ground := Ground.data }, { on := 8, ground := Ground.guard }], guard := some (8, false) }) (v := _) rfl (by kernel_rfl) (by kernel_rfl) (by kernel_rfl) (by kernel_rfl) (fun _ _ _ h => h) (by assumption) (Or.inl ⟨by rfl, ?hy673⟩) (fun _ => rfl) ?rest673
            case hy673 => (intro w hSw; (try dsimp only at hSw); go_simp; try with_reducible rfl)
            try simp only [Act.put, List.setIfInBounds_toArray, List.set_cons_zero, List.set_cons_succ]
            refine' ordS_take (i := 17) (oi := { dst := some 221, op := Op.load 42 (Operand.tmp 220), type := 42, pos := _, after := #[{ on := 16, ground := Ground.data }, { on := 8, ground := Ground.guard }], guard := some (8, false) }) (v := _) rfl (by kernel_rfl) (by kernel_rfl) (by kernel_rfl) (by kernel_rfl) (fun _ _ _ h => h) (by assumption) (Or.inl ⟨by rfl, ?hy674⟩) (fun _ => rfl) ?rest674
            case hy674 => (intro w hSw; (try dsimp only at hSw); go_simp; try with_reducible rfl)
            try simp only [Act.put, List.setIfInBounds_toArray, List.set_cons_zero, List.set_cons_succ]
            refine' ordS_take (i := 18) (oi := { dst := some 222, op := Op.move (Operand.tmp 16), type := 3, pos := _, after := #[{ on := 8, ground := Ground.guard }], guard := some (8, false) }) (v := _) rfl (by kernel_rfl) (by kernel_rfl) (by kernel_rfl) (by kernel_rfl) (fun _ _ _ h => h) (by assumption) (Or.inl ⟨by rfl, ?hy675⟩) (fun _ => rfl) ?rest675
            case hy675 => (intro w hSw; (try dsimp only at hSw); go_simp; try with_reducible rfl)
            try simp only [Act.put, List.setIfInBounds_toArray, List.set_cons_zero, List.set_cons_succ]
            refine' ordS_take (i := 19) (oi := { dst := some 223, op := Op.indexAddr 42 (Operand.tmp 221) (Operand.tmp 222), type := 0, pos := _, after := #[{ on := 17, ground := Ground.data }, { on := 18, ground := Ground.data }, { on := 8, ground := Ground.guard }], guard := some (8, false) }) (v := _) rfl (by kernel_rfl) (by kernel_rfl) (by kernel_rfl) (by kernel_rfl) (fun _ _ _ h => h) (by assumption) (Or.inl ⟨by rfl, ?hy676⟩) (fun _ => rfl) ?rest676
            case hy676 => (intro w hSw; (try dsimp only at hSw); go_simp; try with_reducible rfl)
            try simp only [Act.put, List.setIfInBounds_toArray, List.set_cons_zero, List.set_cons_succ]
            refine' ordS_take (i := 20) (oi := { dst := some 224, op := Op.load 36 (Operand.tmp 223), type := 36, pos := _, after := #[{ on := 19, ground := Ground.data }, { on := 8, ground := Ground.guard }], guard := some (8, false) }) (v := _) rfl (by kernel_rfl) (by kernel_rfl) (by kernel_rfl) (by kernel_rfl) (fun _ _ _ h => h) (by assumption) (Or.inl ⟨by rfl, ?hy677⟩) (fun _ => rfl) ?rest677
            case hy677 => (intro w hSw; (try dsimp only at hSw); go_simp; try with_reducible rfl)
            try simp only [Act.put, List.setIfInBounds_toArray, List.set_cons_zero, List.set_cons_succ]
            refine' ordS_take (i := 21) (oi := { dst := some 225, op := Op.binOp BinOp.gtr 36 (Operand.tmp 216) (Operand.tmp 224) 36, type := 4, pos := _, after := #[{ on := 12, ground := Ground.data }, { on := 20, ground := Ground.data }, { on := 8, ground := Ground.guard }], guard := some (8, false) }) (v := _) rfl (by kernel_rfl) (by kernel_rfl) (by kernel_rfl) (by kernel_rfl) (fun _ _ _ h => h) (by assumption) (Or.inl ⟨by rfl, ?hy678⟩) (fun _ => rfl) ?rest678
            case hy678 => (intro w hSw; (try dsimp only at hSw); go_simp; try with_reducible rfl)
            try simp only [Act.put, List.setIfInBounds_toArray, List.set_cons_zero, List.set_cons_succ]
            refine' ordS_take (i := 22) (oi := { dst := some 226, op := Op.pick (Operand.tmp 212) (Operand.const (Value.bool true)) (Operand.tmp 225), type := 4, pos := _, after := #[{ on := 8, ground := Ground.data }, { on := 21, ground := Ground.data }], guard := none }) (v := _) rfl (by kernel_rfl) (by kernel_rfl) (by kernel_rfl) (by kernel_rfl) (fun _ _ _ h => h) (by assumption) (Or.inl ⟨by rfl, ?hy679⟩) (fun _ => rfl) ?rest679
            case hy679 => (intro w hSw; (try dsimp only at hSw); go_simp; try with_reducible rfl)
            try simp only [Act.put, List.setIfInBounds_toArray, List.set_cons_zero, List.set_cons_succ]
            refine' ordS_take (i := 23) (oi := { dst := some 227, op := Op.move (Operand.tmp 226), type := 4, pos := _, after := #[{ on := 22, ground := Ground.data }, { on := 8, ground := Ground.chain }], guard := none }) (v := _) rfl (by kernel_rfl) (by kernel_rfl) (by kernel_rfl) (by kernel_rfl) (fun _ _ _ h => h) (by assumption) (Or.inl ⟨by rfl, ?hy680⟩) (fun _ => rfl) ?rest680
            case hy680 => (intro w hSw; (try dsimp only at hSw); go_simp; try with_reducible rfl)
            try simp only [Act.put, List.setIfInBounds_toArray, List.set_cons_zero, List.set_cons_succ]
            refine' ordS_take (i := 24) (oi := { dst := some 228, op := Op.move (Operand.tmp 14), type := 42, pos := _, after := #[{ on := 23, ground := Ground.guard }], guard := some (23, false) }) (v := _) rfl (by kernel_rfl) (by kernel_rfl) (by kernel_rfl) (by kernel_rfl) (fun _ _ _ h => h) (by assumption) (Or.inl ⟨by rfl, ?hy681⟩) (fun _ => rfl) ?rest681
            case hy681 => (intro w hSw; (try dsimp only at hSw); go_simp; try with_reducible rfl)
            try simp only [Act.put, List.setIfInBounds_toArray, List.set_cons_zero, List.set_cons_succ]
            refine' ordS_take (i := 25) (oi := { dst := some 229, op := Op.move (Operand.tmp 16), type := 3, pos := _, after := #[{ on := 23, ground := Ground.guard }], guard := some (23, false) }) (v := _) rfl (by kernel_rfl) (by kernel_rfl) (by kernel_rfl) (by kernel_rfl) (fun _ _ _ h => h) (by assumption) (Or.inl ⟨by rfl, ?hy682⟩) (fun _ => rfl) ?rest682
            case hy682 => (intro w hSw; (try dsimp only at hSw); go_simp; try with_reducible rfl)
            try simp only [Act.put, List.setIfInBounds_toArray, List.set_cons_zero, List.set_cons_succ]
            refine' ordS_take (i := 26) (oi := { dst := some 230, op := Op.indexAddr 42 (Operand.tmp 228) (Operand.tmp 229), type := 0, pos := _, after := #[{ on := 24, ground := Ground.data }, { on := 25, ground := Ground.data }, { on := 23, ground := Ground.guard }], guard := some (23, false) }) (v := _) rfl (by kernel_rfl) (by kernel_rfl) (by kernel_rfl) (by kernel_rfl) (fun _ _ _ h => h) (by assumption) (Or.inl ⟨by rfl, ?hy683⟩) (fun _ => rfl) ?rest683
            case hy683 => (intro w hSw; (try dsimp only at hSw); go_simp; try with_reducible rfl)
            try simp only [Act.put, List.setIfInBounds_toArray, List.set_cons_zero, List.set_cons_succ]
            refine' ordS_take (i := 27) (oi := { dst := some 231, op := Op.load 36 (Operand.tmp 230), type := 36, pos := _, after := #[{ on := 26, ground := Ground.data }, { on := 23, ground := Ground.guard }], guard := some (23, false) }) (v := _) rfl (by kernel_rfl) (by kernel_rfl) (by kernel_rfl) (by kernel_rfl) (fun _ _ _ h => h) (by assumption) (Or.inl ⟨by rfl, ?hy684⟩) (fun _ => rfl) ?rest684
            case hy684 => (intro w hSw; (try dsimp only at hSw); go_simp; try with_reducible rfl)
            try simp only [Act.put, List.setIfInBounds_toArray, List.set_cons_zero, List.set_cons_succ]
            refine' ordS_take (i := 28) (oi := { dst := some 232, op := Op.fieldAddr 54 (Operand.tmp 7) 1, type := 0, pos := _, after := #[{ on := 23, ground := Ground.guard }], guard := some (23, false) }) (v := _) rfl (by kernel_rfl) (by kernel_rfl) (by kernel_rfl) (by kernel_rfl) (fun _ _ _ h => h) (by assumption) (Or.inl ⟨by rfl, ?hy685⟩) (fun _ => rfl) ?rest685
            case hy685 => (intro w hSw; (try dsimp only at hSw); go_simp; try with_reducible rfl)
            try simp only [Act.put, List.setIfInBounds_toArray, List.set_cons_zero, List.set_cons_succ]
            refine' ordS_take (i := 29) (oi := { dst := some 233, op := Op.load 52 (Operand.tmp 232), type := 52, pos := _, after := #[{ on := 28, ground := Ground.data }, { on := 23, ground := Ground.guard }], guard := some (23, false) }) (v := _) rfl (by kernel_rfl) (by kernel_rfl) (by kernel_rfl) (by kernel_rfl) (fun _ _ _ h => h) (by assumption) (Or.inl ⟨by rfl, ?hy686⟩) (fun _ => rfl) ?rest686
            case hy686 => (intro w hSw; (try dsimp only at hSw); go_simp; try with_reducible rfl)
            try simp only [Act.put, List.setIfInBounds_toArray, List.set_cons_zero, List.set_cons_succ]
            refine' ordS_take (i := 30) (oi := { dst := some 234, op := Op.move (Operand.tmp 10), type := 3, pos := _, after := #[{ on := 23, ground := Ground.guard }], guard := some (23, false) }) (v := _) rfl (by kernel_rfl) (by kernel_rfl) (by kernel_rfl) (by kernel_rfl) (fun _ _ _ h => h) (by assumption) (Or.inl ⟨by rfl, ?hy687⟩) (fun _ => rfl) ?rest687
            case hy687 => (intro w hSw; (try dsimp only at hSw); go_simp; try with_reducible rfl)
            try simp only [Act.put, List.setIfInBounds_toArray, List.set_cons_zero, List.set_cons_succ]
            refine' ordS_take (i := 31) (oi := { dst := some 235, op := Op.indexAddr 52 (Operand.tmp 233) (Operand.tmp 234), type := 0, pos := _, after := #[{ on := 29, ground := Ground.data }, { on := 30, ground := Ground.data }, { on := 23, ground := Ground.guard }], guard := some (23, false) }) (v := _) rfl (by kernel_rfl) (by kernel_rfl) (by kernel_rfl) (by kernel_rfl) (fun _ _ _ h => h) (by assumption) (Or.inl ⟨by rfl, ?hy688⟩) (fun _ => rfl) ?rest688
            case hy688 => (intro w hSw; (try dsimp only at hSw); go_simp; try with_reducible rfl)
            try simp only [Act.put, List.setIfInBounds_toArray, List.set_cons_zero, List.set_cons_succ]
            refine' ordS_take (i := 32) (oi := { dst := some 236, op := Op.load 42 (Operand.tmp 235), type := 42, pos := _, after := #[{ on := 31, ground := Ground.data }, { on := 23, ground := Ground.guard }], guard := some (23, false) }) (v := _) rfl (by kernel_rfl) (by kernel_rfl) (by kernel_rfl) (by kernel_rfl) (fun _ _ _ h => h) (by assumption) (Or.inl ⟨by rfl, ?hy689⟩) (fun _ => rfl) ?rest689
            case hy689 => (intro w hSw; (try dsimp only at hSw); go_simp; try with_reducible rfl)
            try simp only [Act.put, List.setIfInBounds_toArray, List.set_cons_zero, List.set_cons_succ]
            refine' ordS_take (i := 33) (oi := { dst := some 237, op := Op.move (Operand.tmp 16), type := 3, pos := _, after := #[{ on := 23, ground := Ground.guard }], guard := some (23, false) }) (v := _) rfl (by kernel_rfl) (by kernel_rfl) (by kernel_rfl) (by kernel_rfl) (fun _ _ _ h => h) (by assumption) (Or.inl ⟨by rfl, ?hy690⟩) (fun _ => rfl) ?rest690
            case hy690 => (intro w hSw; (try dsimp only at hSw); go_simp; try with_reducible rfl)
            try simp only [Act.put, List.setIfInBounds_toArray, List.set_cons_zero, List.set_cons_succ]
            refine' ordS_take (i := 34) (oi := { dst := some 238, op := Op.indexAddr 42 (Operand.tmp 236) (Operand.tmp 237), type := 0, pos := _, after := #[{ on := 32, ground := Ground.data }, { on := 33, ground := Ground.data }, { on := 23, ground := Ground.guard }], guard := some (23, false) }) (v := _) rfl (by kernel_rfl) (by kernel_rfl) (by kernel_rfl) (by kernel_rfl) (fun _ _ _ h => h) (by assumption) (Or.inl ⟨by rfl, ?hy691⟩) (fun _ => rfl) ?rest691
            case hy691 => (intro w hSw; (try dsimp only at hSw); go_simp; try with_reducible rfl)
            try simp only [Act.put, List.setIfInBounds_toArray, List.set_cons_zero, List.set_cons_succ]
            refine' ordS_take (i := 35) (oi := { dst := some 239, op := Op.load 36 (Operand.tmp 238), type := 36, pos := _, after := #[{ on := 34, ground := Ground.data }, { on := 23, ground := Ground.guard }], guard := some (23, false) }) (v := _) rfl (by kernel_rfl) (by kernel_rfl) (by kernel_rfl) (by kernel_rfl) (fun _ _ _ h => h) (by assumption) (Or.inl ⟨by rfl, ?hy692⟩) (fun _ => rfl) ?rest692
            case hy692 => (intro w hSw; (try dsimp only at hSw); go_simp; try with_reducible rfl)
            try simp only [Act.put, List.setIfInBounds_toArray, List.set_cons_zero, List.set_cons_succ]
            refine' ordS_take (i := 36) (oi := { dst := some 240, op := Op.binOp BinOp.neq 36 (Operand.tmp 231) (Operand.tmp 239) 36, type := 4, pos := _, after := #[{ on := 27, ground := Ground.data }, { on := 35, ground := Ground.data }, { on := 23, ground := Ground.guard }], guard := some (23, false) }) (v := _) rfl (by kernel_rfl) (by kernel_rfl) (by kernel_rfl) (by kernel_rfl) (fun _ _ _ h => h) (by assumption) (Or.inl ⟨by rfl, ?hy693⟩) (fun _ => rfl) ?rest693
            case hy693 => (intro w hSw; (try dsimp only at hSw); go_simp; try with_reducible rfl)
            try simp only [Act.put, List.setIfInBounds_toArray, List.set_cons_zero, List.set_cons_succ]
            refine' ordS_take (i := 37) (oi := { dst := some 241, op := Op.pick (Operand.tmp 227) (Operand.const (Value.bool true)) (Operand.tmp 240), type := 4, pos := _, after := #[{ on := 23, ground := Ground.data }, { on := 36, ground := Ground.data }], guard := none }) (v := _) rfl (by kernel_rfl) (by kernel_rfl) (by kernel_rfl) (by kernel_rfl) (fun _ _ _ h => h) (by assumption) (Or.inl ⟨by rfl, ?hy694⟩) (fun _ => rfl) ?rest694
            case hy694 => (intro w hSw; (try dsimp only at hSw); go_simp; try with_reducible rfl)
            try simp only [Act.put, List.setIfInBounds_toArray, List.set_cons_zero, List.set_cons_succ]
            refine ordS_done (by kernel_rfl) ?_
            obtain ⟨Y2, hY2⟩ : ∃ Y2, Y1.drew = Y2 := ⟨_, rfl⟩
            rw [hY2] at hD
            rw [hY2]
            clear hY2
            clear hH
            have hBY2 := bl_tr hBY1 hD
            clear hD t1 r1 rj wl vj hBY1
            go_wp2
            go_roundw
            case rel => exact ⟨j + 1, by omega, by go_num, hBY2⟩
            case measure => simp [intOf]; omega
          · obtain rfl : j = cs.length := by omega
            have hge : ¬ (cs.length : Int) < (cs.length : Int) := by omega
            go_wp2
            go_roundw
            case rel => exact ⟨i + 1, by omega, by go_num, hB3q⟩
            case measure => simp [intOf]; omega
    · obtain rfl : i = cs.length := by omega
      have hge : ¬ (cs.length : Int) < (cs.length : Int) := by omega
      go_wp2_with fail
      refine (awake13 _ (HS.out _ hBr)).mono ?_
      rintro e W9 ⟨rfl, hb9⟩
      have hA9 := HBW.out _ (bl_tr hBr hb9)
      clear hb9
      go_wp2
      go_ret
      exact ⟨rfl, hA9⟩
end Go.Proofs.YtgbhafadibdmcaaDoor
