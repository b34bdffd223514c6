/- How a cost is read, and whether a row fits: grid's read and fits. -/
import Derived.Test.YthnpoeobieninaaDoorVd
namespace Go.Proofs.YthnpoeobieninaaDoor
open Go.RowKit Go.Shelf

theorem str_ne {u s : ByteArray} (h : u ≠ s) : (u.toList == s.toList) = false := by
  rw [ByteArray.toList_eq, ByteArray.toList_eq]
  apply Bool.eq_false_iff.2
  intro he
  have := LawfulBEq.eq_of_beq he
  apply h
  cases u; cases s
  simp_all
theorem str_eq (s : ByteArray) : (s.toList == s.toList) = true := by simp

theorem itoa_any (v : Int) (w : World) (h0 : -9223372036854775808 ≤ v) (h1 : v ≤ 9223372036854775807) (hS : Sits w) :
    Calls Tryd.prog 52 #[.int .i64 v] w fun e w' => e = .returned (.string ⟨(Lib.itoa v).toArray⟩) ∧ Below w.heap.size w w' := by
  refine (Tryd.strconv_Itoa v h0 h1 w hS.tab).mono ?_
  rintro e w' ⟨rfl, k, os, rfl⟩
  exact ⟨rfl, Lib.below_grow _ _ (Nat.le_refl _) _ _⟩

set_option maxHeartbeats 2000000 in
theorem read_yes (s : ByteArray) (n : Nat) (w : World) (hlim : s.size ≤ 281474976710656) (hS : Sits w) (hv : valF s.data.toList = some n) :
    Calls Tryd.prog 37 #[.string s] w fun e w' => e = .returned (.tuple #[.int .u16 (readF s.data.toList).1, .int .i64 (readF s.data.toList).2]) ∧ Below w.heap.size w w' := by
  have hsz : s.data.toList.length = s.size := by rw [Array.length_toList]; rfl
  obtain ⟨h1, h2⟩ := valF_atoi hv
  have hlt := valF_lt hv
  obtain ⟨h3, _⟩ := valF_some hv
  have h5 : (s.size : Int) ≤ 5 := by omega
  have hn : (0 : Int) ≤ (n : Int) := by omega
  have hr : readF s.data.toList = if 65535 < n then (0, 10) else ((n : Int), 0) := by unfold readF; rw [hv]
  have he : (⟨(Lib.itoa n).toArray⟩ : ByteArray) = s := by rw [h2]
  by_cases hb : 65535 < n
  · have hb2 : (65535 : Int) < (n : Int) := by omega
    rw [if_pos hb] at hr
    rw [hr]
    clear hr
    go_enter Tryd.func37, Tryd.ntmps37
    go_wp2_with fail
    refine (atoi_any s w hlim hS).mono ?_
    rintro e w1 ⟨hA, (⟨v, hv1, rfl⟩ | ⟨v, t, q, hno, rfl⟩)⟩
    · obtain rfl : v = n := by rw [h1] at hv1; cases hv1; rfl
      clear hv1 hv h1 h2
      go_wp2_with fail
      refine (itoa_any n w1 (by omega) (by omega) (hS.later hA)).mono ?_
      rintro e w2 ⟨rfl, hB⟩
      rw [he]
      go_wp2
      go_ret2
      exact ⟨rfl, bl_tr hA hB⟩
    · exact absurd h1 (hno _)
  · have hb2 : (n : Int) ≤ 65535 := by omega
    rw [if_neg hb] at hr
    rw [hr]
    clear hr
    go_enter Tryd.func37, Tryd.ntmps37
    go_wp2_with fail
    refine (atoi_any s w hlim hS).mono ?_
    rintro e w1 ⟨hA, (⟨v, hv1, rfl⟩ | ⟨v, t, q, hno, rfl⟩)⟩
    · obtain rfl : v = n := by rw [h1] at hv1; cases hv1; rfl
      clear hv1 hv h1 h2
      go_wp2_with fail
      refine (itoa_any n w1 (by omega) (by omega) (hS.later hA)).mono ?_
      rintro e w2 ⟨rfl, hB⟩
      rw [he]
      go_wp2
      go_ret2
      exact ⟨rfl, bl_tr hA hB⟩
    · exact absurd h1 (hno _)

set_option maxHeartbeats 2000000 in
theorem read_no (s : ByteArray) (w : World) (hlim : s.size ≤ 281474976710656) (hS : Sits w) (hv : valF s.data.toList = none) :
    Calls Tryd.prog 37 #[.string s] w fun e w' => e = .returned (.tuple #[.int .u16 (readF s.data.toList).1, .int .i64 (readF s.data.toList).2]) ∧ Below w.heap.size w w' := by
  have hsz : s.data.toList.length = s.size := by rw [Array.length_toList]; rfl
  have hr : readF s.data.toList = (0, 11) := by unfold readF; rw [hv]
  rw [hr]
  clear hr
  go_enter Tryd.func37, Tryd.ntmps37
  go_wp2_with fail
  refine (atoi_any s w hlim hS).mono ?_
  rintro e w1 ⟨hA, (⟨v, hv1, rfl⟩ | ⟨v, t, q, hno, rfl⟩)⟩
  · obtain ⟨hv2, hv3⟩ := Lib.atoiAll_bounds hv1
    by_cases hneg : v < 0
    · go_wp2
      go_ret2
      exact ⟨rfl, hA⟩
    · have hneg2 : 0 ≤ v := by omega
      by_cases hlen : (5 : Int) < (s.size : Int)
      · go_wp2
        go_ret2
        exact ⟨rfl, hA⟩
      · have hlen2 : (s.size : Int) ≤ 5 := by omega
        obtain ⟨u, hu⟩ : ∃ u, (⟨(Lib.itoa v).toArray⟩ : ByteArray) = u := ⟨_, rfl⟩
        have hne : u ≠ s := by
          rintro rfl
          have := atoi_valF (l := u.data.toList) hneg2 (by omega) (by rw [← hu])
          rw [this] at hv; cases hv
        go_wp2_with fail
        refine (itoa_any v w1 (by omega) (by omega) (hS.later hA)).mono ?_
        rintro e w2 ⟨rfl, hB⟩
        rw [hu]
        clear hu
        have hne2 := str_ne hne
        go_wp2
        go_ret2
        exact ⟨rfl, bl_tr hA hB⟩
  · go_wp2
    go_ret2
    exact ⟨rfl, hA⟩

theorem read_any (s : ByteArray) (w : World) (hlim : s.size ≤ 281474976710656) (hS : Sits w) :
    Calls Tryd.prog 37 #[.string s] w fun e w' => e = .returned (.tuple #[.int .u16 (readF s.data.toList).1, .int .i64 (readF s.data.toList).2]) ∧ Below w.heap.size w w' := by
  cases hv : valF s.data.toList with
  | some n => exact read_yes s n w hlim hS hv
  | none => exact read_no s w hlim hS hv

/-- What is wrong with how many costs a row has. -/
def fitsF (W H wide : Int) : Int := if 256 < wide then 10 else if wide ≠ W then 12 else if 256 < H then 10 else 0
set_option maxHeartbeats 1000000 in
theorem fits_any (W H wide : Int) (w : World) :
    Calls Tryd.prog 38 #[.agg #[.int .i64 W, .int .i64 H], .int .i64 wide] w fun e w' => e = .returned (.int .i64 (fitsF W H wide)) ∧ Below w.heap.size w w' := by
  by_cases h1 : 256 < wide <;> by_cases h2 : wide = W <;> by_cases h3 : 256 < H
  all_goals
    unfold fitsF
    simp only [h1, h2, h3, if_true, if_false, ne_eq, not_true, not_false_eq_true]
    go_enter Tryd.func38, Tryd.ntmps38
    go_wp2
    go_ret
    exact ⟨rfl, bl_al (bl0 _) _⟩
end Go.Proofs.YthnpoeobieninaaDoor
