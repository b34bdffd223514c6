/- Package sat: Join; the reference's Join. -/
import Derived.Test.YtgkeifjnnpcleabUe
import Derived.RegionTactic
namespace Go.Proofs.Ytgkeifjnnpcleab
open Go.RowKit

set_option maxHeartbeats 800000 in
theorem joinat_any (p q : Nat) (a a2 : Option Addr) (n c c2 : Nat) (xs ys : List Int) (k : Nat) (w : World) (hx : xs.length = n) (hy : ys.length = n) (hk : k < n)
    (c0 : w.cell? ⟨p, 0, none⟩ = some (.slice a n c)) (c1 : w.cell? ⟨q, 0, none⟩ = some (.slice a2 n c2)) (hr : RowU w a xs) (hr2 : RowU w a2 ys) :
    Calls Try.prog 26 #[.int .i64 (k : Int), .pointer (some ⟨p, 0, none⟩), .pointer (some ⟨q, 0, none⟩)] w fun e w' => e = .returned (.int .u64 (minC (xs.getD k 0) (ys.getD k 0))) ∧ Below w.heap.size w w' := by
  have hkx : k < xs.length := by omega
  have hky : k < ys.length := by omega
  obtain ⟨gb, go, rfl, d0⟩ := hr.cell hkx
  obtain ⟨gb2, go2, rfl, d1⟩ := hr2.cell hky
  have HX := Lib.hid (show xs.getD k 0 = xs[k] by simp [hkx])
  have HY := Lib.hid (show ys.getD k 0 = ys[k] by simp [hky])
  have hk2 : (k : Int) < (n : Int) := by omega
  have hk0 : (0 : Int) ≤ (k : Int) := by omega
  clear hr hr2
  generalize xs[k] = x at *
  generalize ys[k] = y at *
  clear hx hy hkx hky
  by_cases hc : y < x
  all_goals
    have HM := Lib.hid (show minC x y = if y < x then y else x from rfl)
    go_enter Try.func26, Try.ntmps26
    go_wp2
    go_region
    all_goals
      go_wp2
      go_ret
      refine ⟨ret_int (by rw [HX.out, HY.out, HM.out]; first | (rw [if_pos (by omega)]; done) | (rw [if_neg (by omega)]; done)), ?_⟩
      first | exact bl_drn _ _ | exact bl_dr (bl0 _) | exact bl0 _

theorem hmf (fn : Fn) (first cap : Array Value) (w : World) : (Instr.makeFunc fn first cap).run Try.prog w = .ok (.func fn first cap) w := rfl
theorem enters_join (args : Array Value) (w : World) : (callFunc 26 args).run Try.prog w = .ok (.enter 26 args) w := enters_of Try.func26 (by kernel_rfl) rfl args w

theorem join_row {xs ys : List Int} (h : xs.length = ys.length) : (List.range xs.length).map (fun k => minC (xs.getD k 0) (ys.getD k 0)) = joinC xs ys := by
  refine List.ext_getElem (by rw [joinC_len]; simp; omega) fun i h1 h2 => ?_
  have hx : i < xs.length := by simpa using h1
  simp [joinC, hx, show i < ys.length by omega]

set_option maxHeartbeats 800000 in
theorem join_yes (a a2 : Option Addr) (c c2 : Nat) (xs ys : List Int) (w : World) (hl : xs.length ≤ 1048576) (he : xs.length = ys.length) (hr : RowU w a xs) (hr2 : RowU w a2 ys) :
    Calls Try.prog 18 #[.slice a xs.length c, .slice a2 ys.length c2] w fun e w' => ∃ b, e = .returned (.tuple #[.slice b (joinC xs ys).length (joinC xs ys).length, .int .i64 0]) ∧ RowU w' b (joinC xs ys) ∧ Below w.heap.size w w' := by
  have hjl : (joinC xs ys).length = xs.length := by rw [joinC_len]; omega
  rw [hjl]
  have HJ := Lib.hid (join_row he)
  have HE := Lib.hid he.symm
  rw [← he]
  clear hjl he
  have h1 : ((xs.length : Int) != (xs.length : Int)) = false := bne_self_eq_false _
  obtain ⟨w1, hw1⟩ : ∃ w1, (w.alloc (.cells #[.slice a xs.length c] 22)).alloc (.cells #[.slice a2 xs.length c2] 22) = w1 := ⟨_, rfl⟩
  have hb1 : Below w.heap.size w w1 := by rw [← hw1]; exact bl_al (bl_al (bl0 w) _) _
  have c0 : w1.cell? ⟨w.heap.size, 0, none⟩ = some (.slice a xs.length c) := by rw [← hw1]; simp [go_sem]
  have c1 : w1.cell? ⟨w.heap.size + 1, 0, none⟩ = some (.slice a2 xs.length c2) := by rw [← hw1]; simp [go_sem]
  have H1 := Lib.hid hw1
  have HM := hmf
  clear hw1
  go_enter Try.func18, Try.ntmps18
  go_wp2_with fail
  rw [H1.out]
  refine (row_any 26 #[.pointer (some ⟨w.heap.size, 0, none⟩), .pointer (some ⟨w.heap.size + 1, 0, none⟩)] xs.length (fun k => minC (xs.getD k 0) (ys.getD k 0)) _ hl enters_join ?hat).mono ?_
  case hat =>
    intro k W hk hb
    exact joinat_any w.heap.size (w.heap.size + 1) a a2 xs.length c c2 xs ys k W rfl HE.out hk (cell_later hb c0) (cell_later hb c1) ((hr.below hb1).below hb) ((hr2.below hb1).below hb)
  rintro e w2 ⟨rfl, hrow, hb2⟩
  rw [HJ.out] at hrow
  have HR := Lib.hid hrow
  clear hrow
  go_wp2
  go_ret2
  exact ⟨_, rfl, HR.out, bl_tr hb1 hb2⟩

set_option maxHeartbeats 800000 in
theorem join_no (a a2 : Option Addr) (c c2 : Nat) (n m : Nat) (w : World) (he : n ≠ m) :
    Calls Try.prog 18 #[.slice a n c, .slice a2 m c2] w fun e w' => e = .returned (.tuple #[.slice none 0 0, .int .i64 12]) ∧ Below w.heap.size w w' := by
  have h1 : ((n : Int) != (m : Int)) = true := by rw [bne_iff_ne]; omega
  have h2 : ((n : Int) == (m : Int)) = false := by rw [beq_eq_false_iff_ne]; omega
  have HM := hmf
  clear he
  go_enter Try.func18, Try.ntmps18
  go_wp2
  go_ret2
  exact ⟨rfl, bl_al (bl_al (bl0 w) _) _⟩
end Go.Proofs.Ytgkeifjnnpcleab
