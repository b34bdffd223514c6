/- Rows of costs in memory; whether a field is right, whether two are the same. -/
import Derived.Test.YthnpoeobieninaaDoorRa
import Derived.OwnWalk
import Derived.Laws.OwnMore
import Derived.Lib.Hide
namespace Go.Proofs.YthnpoeobieninaaDoor
open Go.RowKit

/-- A row of costs in memory. -/
def RowH (W : World) (a : Option Addr) (zs : List Int) : Prop :=
  zs = [] ∨ ∃ b o, a = some ⟨b, o, none⟩ ∧ ∀ i z, zs[i]? = some z → W.cell? ⟨b, o + i, none⟩ = some (.int .u16 z)
theorem RowH.below {W W' : World} {a : Option Addr} {zs : List Int} (h : RowH W a zs) (hb : Below W.heap.size W W') : RowH W' a zs := by
  rcases h with h | ⟨b, o, h1, h2⟩
  · exact .inl h
  · exact .inr ⟨b, o, h1, fun i z hz => cell_later hb (h2 i z hz)⟩
theorem RowH.cell {W : World} {a : Option Addr} {zs : List Int} (h : RowH W a zs) {k : Nat} (hk : k < zs.length) : ∃ b o, a = some ⟨b, o, none⟩ ∧ W.cell? ⟨b, o + k, none⟩ = some (.int .u16 zs[k]) := by
  rcases h with rfl | ⟨b, o, h1, h2⟩
  · simp at hk
  · exact ⟨b, o, h1, h2 k _ (List.getElem?_eq_getElem hk)⟩
def inH (z : Int) : Prop := 0 ≤ z ∧ z ≤ 65535
def AllH (zs : List Int) : Prop := ∀ z ∈ zs, inH z
theorem AllH.at {l : List Int} (h : AllH l) {k : Nat} (hk : k < l.length) : inH l[k] := h _ (List.getElem_mem hk)

theorem take_same {xs ys : List Int} {k : Nat} (hk : k < xs.length) (hk2 : k < ys.length) (h : xs.take k = ys.take k) (e : xs[k] = ys[k]) : xs.take (k + 1) = ys.take (k + 1) := by
  rw [List.take_succ_eq_append_getElem hk, List.take_succ_eq_append_getElem hk2, h, e]
theorem take_all {xs ys : List Int} {k : Nat} (h1 : xs.length ≤ k) (h2 : xs.length = ys.length) (h : xs.take k = ys.take k) : xs = ys := by
  rw [List.take_of_length_le h1, List.take_of_length_le (by omega)] at h
  exact h
theorem not_same_at {xs ys : List Int} {k : Nat} (hk : k < xs.length) (hk2 : k < ys.length) (e : xs[k] ≠ ys[k]) : xs ≠ ys := by
  rintro rfl
  exact e rfl

set_option maxHeartbeats 2000000 in
theorem equal_any (a a2 : Option Addr) (cap cap2 : Nat) (xs ys : List Int) (w : World) (hr : RowH w a xs) (hr2 : RowH w a2 ys) (hl : xs.length ≤ 140737488355328) :
    Calls Tryd.prog 41 #[.slice a xs.length cap, .slice a2 ys.length cap2] w fun e w' => e = .returned (.bool (decide (xs = ys))) ∧ Below w.heap.size w w' := by
  have hl2 : (xs.length : Int) ≤ 140737488355328 := by omega
  by_cases he : xs.length = ys.length
  · have h1 : ((xs.length : Int) != (ys.length : Int)) = false := by rw [bne_eq_false_iff_eq]; omega
    have HE := Lib.hid he
    clear he
    have hA0 := bl0 w
    go_enter Tryd.func41, Tryd.ntmps41
    go_wp2
    go_loopw [5, 13] (fun _ i wr => ∃ k : Nat, k ≤ xs.length ∧ i = .int .i64 k ∧ xs.take k = ys.take k ∧ Below w.heap.size w wr) (fun _ i _ => xs.length - (intOf i).toNat)
    case atStart => exact ⟨0, Nat.zero_le _, rfl, rfl, hA0⟩
    case round =>
      obtain ⟨k, hk, rfl, ht, hB⟩ := hrel
      have HT := Lib.hid ht
      clear hA0 ht
      by_cases hlt : k < xs.length
      · have hlt2 : (k : Int) < (xs.length : Int) := by omega
        have hk0 : (0 : Int) ≤ (k : Int) := by omega
        have hlty : k < ys.length := by rw [← HE.out]; exact hlt
        obtain ⟨gb, go, rfl, q⟩ := hr.cell hlt
        obtain ⟨gb2, go2, rfl, q2⟩ := hr2.cell hlty
        replace q := cell_later hB q
        replace q2 := cell_later hB q2
        have hlty2 : (k : Int) < (ys.length : Int) := by omega
        clear hr hr2
        by_cases hx : xs[k] = ys[k]
        · have HS := Lib.hid (take_same hlt hlty HT.out hx)
          have hx2 : (xs[k] != ys[k]) = false := by rw [bne_eq_false_iff_eq]; exact hx
          clear hx
          generalize xs[k] = x at *
          generalize ys[k] = y at *
          go_wp2
          go_quiet (fail)
          go_wp2
          go_roundw
          case rel => exact ⟨k + 1, by omega, by go_num, HS.out, bl_tr hB (bl_drn _ _)⟩
          case measure => simp [intOf]; omega
        · have HS := Lib.hid (not_same_at hlt hlty hx)
          have hx2 : (xs[k] != ys[k]) = true := by rw [bne_iff_ne]; exact hx
          clear hx
          generalize xs[k] = x at *
          generalize ys[k] = y at *
          go_wp2
          go_quiet (fail)
          go_wp2
          go_ret
          exact ⟨ret_bool (by simp [HS.out]), bl_tr hB (bl_drn _ _)⟩
      · have hge : (xs.length : Int) ≤ (k : Int) := by omega
        have HS := Lib.hid (take_all (by omega) HE.out HT.out)
        go_wp2
        go_ret
        exact ⟨ret_bool (by simp [HS.out]), hB⟩
  · have h1 : ((xs.length : Int) != (ys.length : Int)) = true := by rw [bne_iff_ne]; omega
    have HE := Lib.hid (show xs ≠ ys from fun e => he (by rw [e]))
    clear he
    go_enter Tryd.func41, Tryd.ntmps41
    go_wp2
    go_ret
    exact ⟨ret_bool (by simp [HE.out]), bl0 _⟩

/-- Whether a field is right. -/
def chkF (W H n : Int) : Int := if mayB W H then (if n = W * H then 0 else 12) else 10
theorem area_bd {W H : Int} (h : mayB W H = true) : 1 ≤ W * H ∧ W * H ≤ 65536 := by
  obtain ⟨h1, h2, h3, h4⟩ := mayB_iff.1 h
  refine ⟨?_, by have a : W * H ≤ 256 * H := Int.mul_le_mul_of_nonneg_right h2 (by omega); omega⟩
  have := Int.mul_le_mul h1 h3 (by omega) (by omega)
  omega
set_option maxHeartbeats 2000000 in
theorem check_any (W H : Int) (a : Option Addr) (n c : Nat) (w : World) :
    Calls Tryd.prog 12 #[.agg #[.int .i64 W, .int .i64 H, .slice a n c]] w fun e w' => e = .returned (.int .i64 (chkF W H n)) ∧ Below w.heap.size w w' := by
  cases hm : mayB W H
  · have hc : chkF W H n = 10 := by unfold chkF; rw [if_neg (by rw [hm]; decide)]
    rw [hc]
    clear hc
    go_enter Tryd.func12, Tryd.ntmps12
    go_wp2_with (go_at_call 29; refine (may_any _ _ _).mono ?_; rintro e w' ⟨rfl, hb⟩; obtain ⟨hcc, hf⟩ := bcell hb)
    go_ret
    exact ⟨rfl, bl_tr (bl_al (bl0 _) _) hb⟩
  · obtain ⟨b1, b2⟩ := area_bd hm
    by_cases hn : (n : Int) = W * H
    · have hc : chkF W H n = 0 := by unfold chkF; rw [if_pos hm, if_pos hn]
      have hn2 : ((n : Int) != W * H) = false := by rw [bne_eq_false_iff_eq]; exact hn
      rw [hc]
      clear hc hn
      go_enter Tryd.func12, Tryd.ntmps12
      go_wp2_with (go_at_call 29; refine (may_any _ _ _).mono ?_; rintro e w' ⟨rfl, hb⟩; obtain ⟨hcc, hf⟩ := bcell hb)
      go_ret
      exact ⟨rfl, bl_tr (bl_al (bl0 _) _) hb⟩
    · have hc : chkF W H n = 12 := by unfold chkF; rw [if_pos hm, if_neg hn]
      have hn2 : ((n : Int) != W * H) = true := by rw [bne_iff_ne]; exact hn
      rw [hc]
      clear hc hn
      go_enter Tryd.func12, Tryd.ntmps12
      go_wp2_with (go_at_call 29; refine (may_any _ _ _).mono ?_; rintro e w' ⟨rfl, hb⟩; obtain ⟨hcc, hf⟩ := bcell hb)
      go_ret
      exact ⟨rfl, bl_tr (bl_al (bl0 _) _) hb⟩

set_option maxHeartbeats 2000000 in
theorem rcheck_any (W H : Int) (a : Option Addr) (n c : Nat) (w : World) :
    Calls Tryd.prog 11 #[.agg #[.int .i64 W, .int .i64 H, .slice a n c]] w fun e w' => e = .returned (.int .i64 (chkF W H n)) ∧ Below w.heap.size w w' := by
  cases hm : mayB W H
  · have hc : chkF W H n = 10 := by unfold chkF; rw [if_neg (by rw [hm]; decide)]
    rw [hc]
    clear hc
    go_enter Tryd.func11, Tryd.ntmps11
    go_wp2_with (go_at_call 26; refine (rmay_any _ _ _).mono ?_; rintro e w' ⟨rfl, hb⟩; obtain ⟨hcc, hf⟩ := bcell hb)
    go_ret
    exact ⟨rfl, bl_tr (bl_al (bl0 _) _) hb⟩
  · obtain ⟨b1, b2⟩ := area_bd hm
    by_cases hn : (n : Int) = W * H
    · have hc : chkF W H n = 0 := by unfold chkF; rw [if_pos hm, if_pos hn]
      have hn2 : ((n : Int) != W * H) = false := by rw [bne_eq_false_iff_eq]; exact hn
      rw [hc]
      clear hc hn
      go_enter Tryd.func11, Tryd.ntmps11
      go_wp2_with (go_at_call 26; refine (rmay_any _ _ _).mono ?_; rintro e w' ⟨rfl, hb⟩; obtain ⟨hcc, hf⟩ := bcell hb)
      go_ret
      exact ⟨rfl, bl_tr (bl_al (bl0 _) _) hb⟩
    · have hc : chkF W H n = 12 := by unfold chkF; rw [if_pos hm, if_neg hn]
      have hn2 : ((n : Int) != W * H) = true := by rw [bne_iff_ne]; exact hn
      rw [hc]
      clear hc hn
      go_enter Tryd.func11, Tryd.ntmps11
      go_wp2_with (go_at_call 26; refine (rmay_any _ _ _).mono ?_; rintro e w' ⟨rfl, hb⟩; obtain ⟨hcc, hf⟩ := bcell hb)
      go_ret
      exact ⟨rfl, bl_tr (bl_al (bl0 _) _) hb⟩
end Go.Proofs.YthnpoeobieninaaDoor
