/- Rows of costs in memory; whether a field is right, whether two are the same. -/
import Derived.Test.YtldpajfendkhbaaDoorRa
import Derived.OwnWalk
import Derived.Laws.OwnMore
import Derived.Lib.Hide
namespace Go.Proofs.YtldpajfendkhbaaDoor
open Go.RowKit

/-- A row of costs in memory. -/
def RowH (W : World) (a : Option Addr) (zs : List Int) : Prop :=
  zs = [] ∨ ∃ b o, a = some ⟨b, o, none⟩ ∧ ∀ i z, zs[i]? = some z → W.cell? ⟨b, o + i, none⟩ = some (.int .u16 z)
theorem RowH.below {W W' : World} {a : Option Addr} {zs : List Int} (h : RowH W a zs) (hb : Below W.heap.size W W') : RowH W' a zs := by
  rcases h with h | ⟨b, o, h1, h2⟩
  · exact .inl h
  · exact .inr ⟨b, o, h1, fun i z hz => cell_later hb (h2 i z hz)⟩
theorem RowH.cell {W : World} {a : Option Addr} {zs : List Int} (h : RowH W a zs) {k : Nat} (hk : k < zs.length) : ∃ b o, a = some ⟨b, o, none⟩ ∧ W.cell? ⟨b, o + k, none⟩ = some (.int .u16 zs[k]) := by
  rcases h with rfl | ⟨b, o, h1, h2⟩
  · simp at hk
  · exact ⟨b, o, h1, h2 k _ (List.getElem?_eq_getElem hk)⟩
def inH (z : Int) : Prop := 0 ≤ z ∧ z ≤ 65535
def AllH (zs : List Int) : Prop := ∀ z ∈ zs, inH z
theorem AllH.at {l : List Int} (h : AllH l) {k : Nat} (hk : k < l.length) : inH l[k] := h _ (List.getElem_mem hk)

theorem take_same {xs ys : List Int} {k : Nat} (hk : k < xs.length) (hk2 : k < ys.length) (h : xs.take k = ys.take k) (e : xs[k] = ys[k]) : xs.take (k + 1) = ys.take (k + 1) := by
  rw [List.take_succ_eq_append_getElem hk, List.take_succ_eq_append_getElem hk2, h, e]
theorem take_all {xs ys : List Int} {k : Nat} (h1 : xs.length ≤ k) (h2 : xs.length = ys.length) (h : xs.take k = ys.take k) : xs = ys := by
  rw [List.take_of_length_le h1, List.take_of_length_le (by omega)] at h
  exact h
theorem not_same_at {xs ys : List Int} {k : Nat} (hk : k < xs.length) (hk2 : k < ys.length) (e : xs[k] ≠ ys[k]) : xs ≠ ys := by
  rintro rfl
  exact e rfl


/-- Whether a field is right. -/
def chkF (W H n : Int) : Int := if mayB W H then (if n = W * H then 0 else 12) else 10
theorem area_bd {W H : Int} (h : mayB W H = true) : 1 ≤ W * H ∧ W * H ≤ 65536 := by
  obtain ⟨h1, h2, h3, h4⟩ := mayB_iff.1 h
  refine ⟨?_, by have a : W * H ≤ 256 * H := Int.mul_le_mul_of_nonneg_right h2 (by omega); omega⟩
  have := Int.mul_le_mul h1 h3 (by omega) (by omega)
  omega
set_option maxHeartbeats 2000000 in
theorem check_any (W H : Int) (a : Option Addr) (n c : Nat) (w : World) :
    Calls Tryd.prog 20 #[.agg #[.int .i64 W, .int .i64 H, .slice a n c]] w fun e w' => e = .returned (.int .i64 (chkF W H n)) ∧ Below w.heap.size w w' := by
  cases hm : mayB W H
  · have hc : chkF W H n = 10 := by unfold chkF; rw [if_neg (by rw [hm]; decide)]
    rw [hc]
    clear hc
    go_enter Tryd.func20, Tryd.ntmps20
    go_wp2_with (go_at_call 33; refine (may_any _ _ _).mono ?_; rintro e w' ⟨rfl, hb⟩; obtain ⟨hcc, hf⟩ := bcell hb)
    go_ret
    exact ⟨rfl, bl_tr (bl_al (bl0 _) _) hb⟩
  · obtain ⟨b1, b2⟩ := area_bd hm
    by_cases hn : (n : Int) = W * H
    · have hc : chkF W H n = 0 := by unfold chkF; rw [if_pos hm, if_pos hn]
      have hn2 : ((n : Int) != W * H) = false := by rw [bne_eq_false_iff_eq]; exact hn
      rw [hc]
      clear hc hn
      go_enter Tryd.func20, Tryd.ntmps20
      go_wp2_with (go_at_call 33; refine (may_any _ _ _).mono ?_; rintro e w' ⟨rfl, hb⟩; obtain ⟨hcc, hf⟩ := bcell hb)
      go_ret
      exact ⟨rfl, bl_tr (bl_al (bl0 _) _) hb⟩
    · have hc : chkF W H n = 12 := by unfold chkF; rw [if_pos hm, if_neg hn]
      have hn2 : ((n : Int) != W * H) = true := by rw [bne_iff_ne]; exact hn
      rw [hc]
      clear hc hn
      go_enter Tryd.func20, Tryd.ntmps20
      go_wp2_with (go_at_call 33; refine (may_any _ _ _).mono ?_; rintro e w' ⟨rfl, hb⟩; obtain ⟨hcc, hf⟩ := bcell hb)
      go_ret
      exact ⟨rfl, bl_tr (bl_al (bl0 _) _) hb⟩

set_option maxHeartbeats 2000000 in
theorem rcheck_any (W H : Int) (a : Option Addr) (n c : Nat) (w : World) :
    Calls Tryd.prog 24 #[.agg #[.int .i64 W, .int .i64 H, .slice a n c]] w fun e w' => e = .returned (.int .i64 (chkF W H n)) ∧ Below w.heap.size w w' := by
  cases hm : mayB W H
  · have hc : chkF W H n = 10 := by unfold chkF; rw [if_neg (by rw [hm]; decide)]
    rw [hc]
    clear hc
    go_enter Tryd.func24, Tryd.ntmps24
    go_wp2_with (go_at_call 41; refine (rmay_any _ _ _).mono ?_; rintro e w' ⟨rfl, hb⟩; obtain ⟨hcc, hf⟩ := bcell hb)
    go_ret
    exact ⟨rfl, bl_tr (bl_al (bl0 _) _) hb⟩
  · obtain ⟨b1, b2⟩ := area_bd hm
    by_cases hn : (n : Int) = W * H
    · have hc : chkF W H n = 0 := by unfold chkF; rw [if_pos hm, if_pos hn]
      have hn2 : ((n : Int) != W * H) = false := by rw [bne_eq_false_iff_eq]; exact hn
      rw [hc]
      clear hc hn
      go_enter Tryd.func24, Tryd.ntmps24
      go_wp2_with (go_at_call 41; refine (rmay_any _ _ _).mono ?_; rintro e w' ⟨rfl, hb⟩; obtain ⟨hcc, hf⟩ := bcell hb)
      go_ret
      exact ⟨rfl, bl_tr (bl_al (bl0 _) _) hb⟩
    · have hc : chkF W H n = 12 := by unfold chkF; rw [if_pos hm, if_neg hn]
      have hn2 : ((n : Int) != W * H) = true := by rw [bne_iff_ne]; exact hn
      rw [hc]
      clear hc hn
      go_enter Tryd.func24, Tryd.ntmps24
      go_wp2_with (go_at_call 41; refine (rmay_any _ _ _).mono ?_; rintro e w' ⟨rfl, hb⟩; obtain ⟨hcc, hf⟩ := bcell hb)
      go_ret
      exact ⟨rfl, bl_tr (bl_al (bl0 _) _) hb⟩
end Go.Proofs.YtldpajfendkhbaaDoor
