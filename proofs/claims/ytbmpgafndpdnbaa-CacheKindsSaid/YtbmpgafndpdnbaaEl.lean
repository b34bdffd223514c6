/- Cache: the calls, of one cache among other things; the chapter's example. -/
import Derived.Test.YtbmpgafndpdnbaaEk
namespace Go.Proofs.Ytbmpgafndpdnbaa
open Go.RowKit Go.Maps

section
variable {w : World} {B : Nat} {l1 l2 : List Own} {p : Nat} {r : Int} {m : List IT}
theorem new_s1 {l : List Own} (h : Sep w B l) (hr : 1 ≤ r ∧ r ≤ 16) : Calls Try.prog 9 #[.int .i64 r] w fun e w' => ∃ p, e = .returned (.tuple #[.pointer (some ⟨p, 0, none⟩), .int .i64 0]) ∧ Sep w' B (l ++ [CO Try.c1 p r []]) ∧ Below w.heap.size w w' :=
  (new_c1 r hr w).mono fun _ _ ⟨he, ht⟩ => ⟨_, he, (h.made ht).1, (h.made ht).2⟩
theorem put_s1 (k x : Int) (h : Sep w B (l1 ++ CO Try.c1 p r m :: l2)) (hm : m.length ≤ 1000) (hr : 1 ≤ r) :
    Calls Try.prog 20 #[.pointer (some ⟨p, 0, none⟩), .int .i64 k, .int .i64 x] w fun e w' => e = .returned (.tuple #[.int .i64 (goneK r k m), .bool (fullB r k m)]) ∧ Sep w' B (l1 ++ CO Try.c1 p r (putM r k x m) :: l2) ∧ Below B w w' :=
  h.op (fun S hS => put_c1 k x p r m S w hS hm hr)
theorem get_s1 (k : Int) (h : Sep w B (l1 ++ CO Try.c1 p r m :: l2)) (hm : m.length ≤ 1000) :
    Calls Try.prog 12 #[.pointer (some ⟨p, 0, none⟩), .int .i64 k] w fun e w' => e = .returned (.tuple #[.int .i64 (peekV k m), .bool (findI k m).isSome]) ∧ Sep w' B (l1 ++ CO Try.c1 p r (getM k m) :: l2) ∧ Below B w w' :=
  h.op (fun S hS => get_c1 k p r m S w hS hm)
theorem peek_s1 (k : Int) (h : Sep w B (l1 ++ CO Try.c1 p r m :: l2)) (hm : m.length ≤ 1000) :
    Calls Try.prog 14 #[.pointer (some ⟨p, 0, none⟩), .int .i64 k] w fun e w' => e = .returned (.tuple #[.int .i64 (peekV k m), .bool (findI k m).isSome]) ∧ Sep w' B (l1 ++ CO Try.c1 p r m :: l2) ∧ Below w.heap.size w w' := by
  obtain ⟨S, h1, _⟩ := h.at
  exact (peek_c1 k p r m S w h1 hm).mono fun _ _ ⟨he, hb⟩ => ⟨he, h.below hb, hb⟩
theorem len_s1 (h : Sep w B (l1 ++ CO Try.c1 p r m :: l2)) : Calls Try.prog 11 #[.pointer (some ⟨p, 0, none⟩)] w fun e w' => e = .returned (.int .i64 (m.length : Nat)) ∧ w' = w := by
  obtain ⟨S, h1, _⟩ := h.at
  exact len_c1 p r m S w h1
theorem keys_s1 (h : Sep w B (l1 ++ CO Try.c1 p r m :: l2)) (hm : m.length ≤ 1000) :
    Calls Try.prog 23 #[.pointer (some ⟨p, 0, none⟩)] w fun e w' => ∃ g, e = .returned (.slice (some ⟨g, 0, none⟩) m.length m.length) ∧
      Sep w' B ((l1 ++ CO Try.c1 p r m :: l2) ++ [RowO 3 1 (.slice (some ⟨g, 0, none⟩) m.length m.length) m.length (cellsI (m.map Prod.fst))]) ∧ Below w.heap.size w w' := by
  obtain ⟨S, h1, _⟩ := h.at
  exact (keys_c1 p r m S w h1 hm).mono fun _ _ ⟨g, he, ht⟩ => ⟨g, he, (h.made ht).1, (h.made ht).2⟩
theorem Sep.rowI {n cap : Nat} {a : Option Addr} {is : List Int} (h : Sep w B (l1 ++ RowO 3 1 (.slice a n cap) n (cellsI is) :: l2)) (hn : is.length = n) : RowI w a is := own_rowI h.own hn
end

set_option maxRecDepth 100000 in
set_option maxHeartbeats 4000000 in
theorem awake16 (w : World) : Calls Try.prog 10 #[] w fun e w' => e = .returned (.bool true) ∧ Below w.heap.size w w' := by
  have h0 : Sep w w.heap.size [] := Sep.nil (Nat.le_refl _)
  go_enter Try.func10, Try.ntmps10
  go_wp2_with fail
  refine (new_s1 h0 (by decide)).mono ?_
  rintro e w1 ⟨p, rfl, h1, hA⟩
  have hcall := put_s1 (l1 := []) (l2 := []) 1 10 h1 (by simp) (by decide)
  rw [show goneK 2 1 [] = 0 from by decide, show fullB 2 1 [] = false from by decide, show putM 2 1 10 [] = [(1, 10)] from by decide] at hcall
  go_wp2_with fail
  refine hcall.mono ?_
  rintro e w2 ⟨rfl, h2, b⟩
  replace hA := hA.trans b
  clear b h1 hcall
  have hcall := put_s1 (l1 := []) (l2 := []) 2 20 h2 (by simp) (by decide)
  rw [show goneK 2 2 [(1, 10)] = 0 from by decide, show fullB 2 2 [(1, 10)] = false from by decide, show putM 2 2 20 [(1, 10)] = [(2, 20), (1, 10)] from by decide] at hcall
  go_wp2_with fail
  refine hcall.mono ?_
  rintro e w3 ⟨rfl, h3, b⟩
  replace hA := hA.trans b
  clear b h2 hcall
  have hcall := get_s1 (l1 := []) (l2 := []) 1 h3 (by simp)
  rw [show peekV 1 [(2, 20), (1, 10)] = 10 from by decide, show (findI 1 [(2, 20), (1, 10)]).isSome = true from by decide, show getM 1 [(2, 20), (1, 10)] = [(1, 10), (2, 20)] from by decide] at hcall
  go_wp2_with fail
  refine hcall.mono ?_
  rintro e w4 ⟨rfl, h4, b⟩
  replace hA := hA.trans b
  clear b h3 hcall
  have hcall := put_s1 (l1 := []) (l2 := []) 3 30 h4 (by simp) (by decide)
  rw [show goneK 2 3 [(1, 10), (2, 20)] = 2 from by decide, show fullB 2 3 [(1, 10), (2, 20)] = true from by decide, show putM 2 3 30 [(1, 10), (2, 20)] = [(3, 30), (1, 10)] from by decide] at hcall
  go_wp2_with fail
  refine hcall.mono ?_
  rintro e w5 ⟨rfl, h5, b⟩
  replace hA := hA.trans b
  clear b h4 hcall
  have hcall := keys_s1 (l1 := []) (l2 := []) h5 (by simp)
  go_wp2_with fail
  refine hcall.mono ?_
  rintro e w6 ⟨g, rfl, h6, b⟩
  replace hA := bl_tr hA b
  clear b h5 hcall
  have hrow := Sep.rowI (l1 := [CO Try.c1 p 2 [(3, 30), (1, 10)]]) (l2 := []) h6 (by simp)
  have hb7 := bl_al (bl0 w6) (.cells #[.int .i64 3, .int .i64 1] 3)
  have hr2 : RowI (w6.alloc (.cells #[.int .i64 3, .int .i64 1] 3)) (some ⟨w6.heap.size, 0, none⟩) [3, 1] := by
    refine .inr ⟨w6.heap.size, 0, rfl, fun i z hz => ?_⟩
    match i, hz with
    | 0, hz => (simp at hz; subst hz; simp [go_sem])
    | 1, hz => (simp at hz; subst hz; simp [go_sem])
    | i + 2, hz => simp at hz
  have hcall := ints_any (some ⟨g, 0, none⟩) (some ⟨w6.heap.size, 0, none⟩) 2 2 [3, 1] [3, 1] _ (by simp) (by simp) (hrow.below hb7) hr2
  rw [show decide ([(3 : Int), 1] = [3, 1]) = true from by decide] at hcall
  replace hA := bl_tr hA hb7
  clear h6 hrow hb7 hr2
  go_wp2_with fail
  refine hcall.mono ?_
  rintro e w8 ⟨rfl, b⟩
  have HA := Lib.hid (bl_tr hA b)
  clear hA b hcall
  go_wp2
  go_ret
  exact ⟨rfl, HA.out⟩
end Go.Proofs.Ytbmpgafndpdnbaa
