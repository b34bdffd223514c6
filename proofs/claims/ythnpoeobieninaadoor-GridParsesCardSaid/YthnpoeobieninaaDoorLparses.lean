/- GridParses: the walk of the law. -/
import Derived.Test.YthnpoeobieninaaDoorYk
import Derived.Test.YthnpoeobieninaaDoorVn
import Derived.Test.YthnpoeobieninaaDoorYg
namespace Go.Proofs.YthnpoeobieninaaDoor
open Go.RowKit

theorem parF_small (s : List UInt8) : (parF s).1.cs.length ≤ 65536 := by
  by_cases h : (parF s).1.e = 0
  · obtain ⟨k, m, cs, e, h1, h2, h3, h4, h5, _⟩ := parF_back h
    rw [e]
    show cs.length ≤ 65536
    rw [h5]
    calc m * k ≤ 256 * 256 := Nat.mul_le_mul h4 h2
      _ ≤ 65536 := by decide
  · unfold parF at h ⊢
    split
    · simp
    · split
      · simp
      · split
        · simp
        · rename_i h1 h2 h3
          rw [if_neg h1, if_neg h2, if_neg h3] at h
          exact absurd h (by simpa using h3)
theorem sameF_self (W H : Int) (xs : List Int) : sameF W H xs W H xs = true := by unfold sameF; simp

set_option maxRecDepth 100000 in
set_option maxHeartbeats 4000000 in
theorem parsesg_small (s : ByteArray) (w : World) (hS : Sits w) (h : ((3000 : Int) < (s.size : Int) ∧ (s.size : Int) ≤ 131072) ∨ (140000 : Int) < (s.size : Int)) :
    Calls Tryd.prog 5 #[.string s] w fun e w' => e = .returned (.bool true) ∧ Below w.heap.size w w' := by
  have hA := bl0 w
  rcases h with ⟨h1, h2⟩ | h1
  · go_enter Tryd.func5, Tryd.ntmps5
    go_wp2_with fail
    refine (awake_any _ hS).mono ?_
    rintro e wu ⟨rfl, hb⟩
    go_wp2
    go_ret
    exact ⟨rfl, hb⟩
  · have h2 : ¬ ((s.size : Int) ≤ 131072) := by omega
    have h3 : (3000 : Int) < (s.size : Int) := by omega
    go_enter Tryd.func5, Tryd.ntmps5
    go_wp2_with fail
    refine (awake_any _ hS).mono ?_
    rintro e wu ⟨rfl, hb⟩
    go_wp2
    go_ret
    exact ⟨rfl, hb⟩
set_option maxRecDepth 100000 in
set_option maxHeartbeats 4000000 in
theorem parsesg_main (s : ByteArray) (w : World) (hS : Sits w) (h1 : (s.size : Int) ≤ 3000 ∨ ((131072 : Int) < (s.size : Int) ∧ (s.size : Int) ≤ 140000)) :
    Calls Tryd.prog 5 #[.string s] w fun e w' => e = .returned (.bool true) ∧ Below w.heap.size w w' := by
  have hA := bl0 w
  have HSM := Lib.hid (parF_small s.data.toList)
  have HRP := fun (V : World) => rparse_any s V
  rcases h1 with h1 | ⟨h1, h2⟩
  · go_enter Tryd.func5, Tryd.ntmps5
    go_wp2_with fail
    refine (parse_any s _ (hS.later hA)).mono ?_
    rintro e w1 ⟨hb, v, rfl, hown⟩
    have hsm := HSM.out
    generalize (parF s.data.toList).1.W = q2 at *
    generalize (parF s.data.toList).1.H = q3 at *
    generalize (parF s.data.toList).2 = q4 at *
    generalize (parF s.data.toList).1.e = q5 at *
    generalize (parF s.data.toList).1.cs = xs at *
    obtain ⟨a1, c1, rfl, hrow1⟩ := rowH_of_own hown
    obtain ⟨W1, hW1⟩ : ∃ W1, w1.alloc (.cells #[.int .i64 q2, .int .i64 q3, .slice a1 xs.length c1] 26) = W1 := ⟨_, rfl⟩
    have f0 : W1.cell? ⟨w1.heap.size, 0, none⟩ = some (.int .i64 q2) := by rw [← hW1]; simp [go_sem]
    have f1 : W1.cell? ⟨w1.heap.size, 1, none⟩ = some (.int .i64 q3) := by rw [← hW1]; simp [go_sem]
    have f2 : W1.cell? ⟨w1.heap.size, 2, none⟩ = some (.slice a1 xs.length c1) := by rw [← hW1]; simp [go_sem]
    have hb1 : Below w1.heap.size w1 W1 := by rw [← hW1]; exact bl_al (bl0 w1) _
    have hr1 := hrow1.below hb1
    replace hA := bl_tr (bl_tr hA hb) hb1
    have HW1 := Lib.hid hW1
    clear hb hown hrow1 hb1 hW1
    go_wp2_with fail
    rw [HW1.out]
    refine (HRP _).mono ?_
    rintro e w2 ⟨hb2, v2, rfl, hown2⟩
    obtain ⟨a2, c2, rfl, hrow2⟩ := rowH_of_own hown2
    replace f0 := cell_later hb2 f0
    replace f1 := cell_later hb2 f1
    replace f2 := cell_later hb2 f2
    have zf := blk_lt f0
    have hb3 := bl_al (bl0 w2) (.cells #[.int .i64 q2, .int .i64 q3, .slice a2 xs.length c2] 26)
    have HR2 := Lib.hid (hrow2.below hb3)
    have HR1 := Lib.hid (hr1.below (bl_tr hb2 hb3))
    replace hA := bl_tr (bl_tr hA hb2) hb3
    have e4 : (q4 == q4) = true := by simp
    have e5 : (q5 == q5) = true := by simp
    clear hb2 hown2 hrow2 hb3 hr1 HW1 HRP
    go_wp2_with fail
    refine (rsame_any q2 q3 q2 q3 a1 a2 c1 c2 xs xs _ HR1.out HR2.out (by omega)).mono ?_
    rintro e w3 ⟨rfl, hb4⟩
    rw [sameF_self]
    replace hA := bl_tr hA hb4
    clear hb4
    go_wp2_with fail
    refine (awake_any _ (hS.later hA)).mono ?_
    rintro e w4 ⟨rfl, hb5⟩
    have hF := bl_tr hA hb5
    go_wp2
    go_ret
    exact ⟨rfl, hF⟩
  · have h3 : (3000 : Int) < (s.size : Int) := by omega
    go_enter Tryd.func5, Tryd.ntmps5
    go_wp2_with fail
    refine (parse_any s _ (hS.later hA)).mono ?_
    rintro e w1 ⟨hb, v, rfl, hown⟩
    have hsm := HSM.out
    generalize (parF s.data.toList).1.W = q2 at *
    generalize (parF s.data.toList).1.H = q3 at *
    generalize (parF s.data.toList).2 = q4 at *
    generalize (parF s.data.toList).1.e = q5 at *
    generalize (parF s.data.toList).1.cs = xs at *
    obtain ⟨a1, c1, rfl, hrow1⟩ := rowH_of_own hown
    obtain ⟨W1, hW1⟩ : ∃ W1, w1.alloc (.cells #[.int .i64 q2, .int .i64 q3, .slice a1 xs.length c1] 26) = W1 := ⟨_, rfl⟩
    have f0 : W1.cell? ⟨w1.heap.size, 0, none⟩ = some (.int .i64 q2) := by rw [← hW1]; simp [go_sem]
    have f1 : W1.cell? ⟨w1.heap.size, 1, none⟩ = some (.int .i64 q3) := by rw [← hW1]; simp [go_sem]
    have f2 : W1.cell? ⟨w1.heap.size, 2, none⟩ = some (.slice a1 xs.length c1) := by rw [← hW1]; simp [go_sem]
    have hb1 : Below w1.heap.size w1 W1 := by rw [← hW1]; exact bl_al (bl0 w1) _
    have hr1 := hrow1.below hb1
    replace hA := bl_tr (bl_tr hA hb) hb1
    have HW1 := Lib.hid hW1
    clear hb hown hrow1 hb1 hW1
    go_wp2_with fail
    rw [HW1.out]
    refine (HRP _).mono ?_
    rintro e w2 ⟨hb2, v2, rfl, hown2⟩
    obtain ⟨a2, c2, rfl, hrow2⟩ := rowH_of_own hown2
    replace f0 := cell_later hb2 f0
    replace f1 := cell_later hb2 f1
    replace f2 := cell_later hb2 f2
    have zf := blk_lt f0
    have hb3 := bl_al (bl0 w2) (.cells #[.int .i64 q2, .int .i64 q3, .slice a2 xs.length c2] 26)
    have HR2 := Lib.hid (hrow2.below hb3)
    have HR1 := Lib.hid (hr1.below (bl_tr hb2 hb3))
    replace hA := bl_tr (bl_tr hA hb2) hb3
    have e4 : (q4 == q4) = true := by simp
    have e5 : (q5 == q5) = true := by simp
    clear hb2 hown2 hrow2 hb3 hr1 HW1 HRP
    go_wp2_with fail
    refine (rsame_any q2 q3 q2 q3 a1 a2 c1 c2 xs xs _ HR1.out HR2.out (by omega)).mono ?_
    rintro e w3 ⟨rfl, hb4⟩
    rw [sameF_self]
    replace hA := bl_tr hA hb4
    clear hb4
    go_wp2_with fail
    refine (awake_any _ (hS.later hA)).mono ?_
    rintro e w4 ⟨rfl, hb5⟩
    have hF := bl_tr hA hb5
    go_wp2
    go_ret
    exact ⟨rfl, hF⟩
theorem parsesg_walk (s : ByteArray) (w : World) (hS : Sits w) :
    Calls Tryd.prog 5 #[.string s] w fun e w' => e = .returned (.bool true) ∧ Below w.heap.size w w' := by
  by_cases h1 : ((3000 : Int) < (s.size : Int) ∧ (s.size : Int) ≤ 131072) ∨ (140000 : Int) < (s.size : Int)
  · exact parsesg_small s w hS h1
  · exact parsesg_main s w hS (by omega)
end Go.Proofs.YthnpoeobieninaaDoor
