/- Rows of costs in memory: contracts of Sum, Least, the reference's Least, and the laws' same. -/
import Derived.Test.YtgkeifjnnpcleabUb
namespace Go.Proofs.Ytgkeifjnnpcleab
open Go.RowKit

/-- A row of costs in memory. -/
def RowU (W : World) (a : Option Addr) (zs : List Int) : Prop :=
  zs = [] ∨ ∃ b o, a = some ⟨b, o, none⟩ ∧ ∀ i z, zs[i]? = some z → W.cell? ⟨b, o + i, none⟩ = some (.int .u64 z)
theorem RowU.below {W W' : World} {a : Option Addr} {zs : List Int} (h : RowU W a zs) (hb : Below W.heap.size W W') : RowU W' a zs := by
  rcases h with h | ⟨b, o, h1, h2⟩
  · exact .inl h
  · exact .inr ⟨b, o, h1, fun i z hz => cell_later hb (h2 i z hz)⟩
theorem RowU.cell {W : World} {a : Option Addr} {zs : List Int} (h : RowU W a zs) {k : Nat} (hk : k < zs.length) : ∃ b o, a = some ⟨b, o, none⟩ ∧ W.cell? ⟨b, o + k, none⟩ = some (.int .u64 zs[k]) := by
  rcases h with rfl | ⟨b, o, h1, h2⟩
  · simp at hk
  · exact ⟨b, o, h1, h2 k _ (List.getElem?_eq_getElem hk)⟩
theorem AllU.at {l : List Int} (h : AllU l) {k : Nat} (hk : k < l.length) : inU l[k] := h _ (List.getElem_mem hk)

set_option maxHeartbeats 800000 in
theorem sum_any (a : Option Addr) (cap : Nat) (zs : List Int) (w : World) (hr : RowU w a zs) (hu : AllU zs) (hl : zs.length ≤ 1048576) :
    Calls Try.prog 11 #[.slice a zs.length cap] w fun e w' => e = .returned (.int .u64 (sumC zs)) ∧ w = w' := by
  have hl2 : (zs.length : Int) ≤ 1048576 := by omega
  go_enter Try.func11, Try.ntmps11
  go_wp2
  go_loopw [3, 8] (fun s i wr => ∃ k : Nat, k ≤ zs.length ∧ i = .int .i64 k ∧ s = .int .u64 (sumC (zs.take k)) ∧ w = wr) (fun _ i _ => zs.length - (intOf i).toNat)
  case atStart => exact ⟨0, Nat.zero_le _, rfl, rfl, rfl⟩
  case round =>
    obtain ⟨k, hk, rfl, rfl, rfl⟩ := hrel
    by_cases hlt : k < zs.length
    · have hlt2 : (k : Int) < (zs.length : Int) := by omega
      obtain ⟨gb, go, rfl, q⟩ := hr.cell hlt
      have HS := Lib.hid (sumC_succ zs k hlt)
      have u1 := sumC_in (hu.take k)
      have u2 := hu.at hlt
      clear hr
      go_wp2_with (go_at_call 12; (with_reducible refine (add_any _ _ _ (by assumption) (by assumption)).mono ?_); rintro e w' ⟨rfl, rfl⟩)
      go_roundw
      case rel => exact ⟨k + 1, by omega, by go_num, by rw [HS.out], by trivial⟩
      case measure => simp [intOf]; omega
    · have HS := Lib.hid (show zs.take k = zs from List.take_of_length_le (by omega))
      have hge : (zs.length : Int) ≤ (k : Int) := by omega
      go_wp2
      go_ret
      exact ⟨ret_int (by rw [HS.out]), rfl⟩

set_option maxHeartbeats 800000 in
theorem least_any (a : Option Addr) (cap : Nat) (zs : List Int) (w : World) (hr : RowU w a zs) (hu : AllU zs) (hl : zs.length ≤ 1048576) :
    Calls Try.prog 15 #[.slice a zs.length cap] w fun e w' => e = .returned (.tuple #[.int .i64 (leastC zs).1, .bool (leastC zs).2]) ∧ w = w' := by
  have hl2 : (zs.length : Int) ≤ 1048576 := by omega
  go_enter Try.func15, Try.ntmps15
  go_wp2
  go_loopw [4, 5, 10] (fun p v i wr => ∃ (k q : Nat) (u : Int), k ≤ zs.length ∧ i = .int .i64 k ∧ p = .int .i64 q ∧ v = .int .u64 u ∧ LeastTo zs k q u ∧ w = wr) (fun _ _ i _ => zs.length - (intOf i).toNat)
  case atStart => exact ⟨0, 0, 18446744073709551615, Nat.zero_le _, rfl, rfl, rfl, LeastTo.zero zs, rfl⟩
  case round =>
    obtain ⟨k, q, u, hk, rfl, rfl, rfl, ht, rfl⟩ := hrel
    by_cases hlt : k < zs.length
    · have hlt2 : (k : Int) < (zs.length : Int) := by omega
      obtain ⟨gb, go, rfl, c⟩ := hr.cell hlt
      have hz : zs[k]? = some zs[k] := List.getElem?_eq_getElem hlt
      have HZ := Lib.hid hz
      have HU := Lib.hid (hu.at hlt)
      clear hr hz
      by_cases hc : zs[k] < u
      · have HT := Lib.hid (ht.less HZ.out hc ht.at)
        clear ht
        go_wp2
        go_roundw
        case rel => exact ⟨k + 1, k, zs[k], by omega, by go_num, rfl, rfl, HT.out, by trivial⟩
        case measure => simp [intOf]; omega
      · have HT := Lib.hid (ht.more HZ.out hc HU.out.2)
        clear ht
        go_wp2
        go_roundw
        case rel => exact ⟨k + 1, q, u, by omega, by go_num, rfl, rfl, HT.out, by trivial⟩
        case measure => simp [intOf]; omega
    · have hke : k = zs.length := by omega
      have HS := Lib.hid (leastC_of (hke ▸ ht))
      have hge : (zs.length : Int) ≤ (k : Int) := by omega
      clear ht hke
      go_wp2
      go_ret2
      exact ⟨by rw [HS.out]; rfl, rfl⟩

set_option maxHeartbeats 1600000 in
theorem same_any (a a2 : Option Addr) (cap cap2 : Nat) (xs ys : List Int) (w : World) (hr : RowU w a xs) (hr2 : RowU w a2 ys) (hl : xs.length ≤ 1048576) :
    Calls Try.prog 22 #[.slice a xs.length cap, .slice a2 ys.length cap2] w fun e w' => e = .returned (.bool (decide (xs = ys))) ∧ Below w.heap.size w w' := by
  have hl2 : (xs.length : Int) ≤ 1048576 := by omega
  by_cases hne : xs.length = ys.length
  · have h1 : ((xs.length : Int) == (ys.length : Int)) = true := by rw [beq_iff_eq]; omega
    have h2 : ((xs.length : Int) != (ys.length : Int)) = false := by rw [bne_eq_false_iff_eq]; omega
    have HN := Lib.hid hne
    clear hne
    go_enter Try.func22, Try.ntmps22
    go_wp2
    clear h1 h2
    go_loopw [5] (fun i wr => ∃ k : Nat, k ≤ xs.length ∧ i = .int .i64 k ∧ xs.take k = ys.take k ∧ Below w.heap.size w wr) (fun i _ => xs.length - (intOf i).toNat)
    case atStart => exact ⟨0, Nat.zero_le _, rfl, rfl, bl0 w⟩
    case round =>
      obtain ⟨k, hk, rfl, he, hB⟩ := hrel
      have HE := Lib.hid he
      clear he
      by_cases hlt : k < xs.length
      · have hlt2 : (k : Int) < (xs.length : Int) := by omega
        have hk0 : (0 : Int) ≤ (k : Int) := by omega
        have hlty : k < ys.length := by rw [← HN.out]; exact hlt
        have hlty2 : (k : Int) < (ys.length : Int) := by omega
        obtain ⟨gb, go, rfl, q⟩ := hr.cell hlt
        obtain ⟨gb2, go2, rfl, q2⟩ := hr2.cell hlty
        replace q := cell_later hB q
        replace q2 := cell_later hB q2
        have HX := Lib.hid (List.take_succ_eq_append_getElem hlt)
        have HY := Lib.hid (List.take_succ_eq_append_getElem hlty)
        have HGX := Lib.hid (List.getElem?_eq_getElem hlt)
        have HGY := Lib.hid (List.getElem?_eq_getElem hlty)
        clear hr hr2
        by_cases hc : xs[k] = ys[k]
        · have HC := Lib.hid hc
          have c1 : (xs[k] == ys[k]) = true := by rw [hc]; exact beq_self_eq_true _
          have c2 : (xs[k] != ys[k]) = false := by rw [hc]; exact bne_self_eq_false _
          clear hc
          generalize xs[k] = x at *
          generalize ys[k] = y at *
          go_wp2
          go_quiet (fail)
          go_wp2
          go_roundw
          case rel => exact ⟨k + 1, by omega, by go_num, by rw [HX.out, HY.out, HE.out, HC.out], bl_tr hB (bl_drn _ _)⟩
          case measure => simp [intOf]; omega
        · have HF := Lib.hid (show ¬ xs = ys from fun e => by subst e; exact hc rfl)
          have c1 : (xs[k] == ys[k]) = false := by rw [beq_eq_false_iff_ne]; exact hc
          have c2 : (xs[k] != ys[k]) = true := by rw [bne_iff_ne]; exact hc
          clear hc
          generalize xs[k] = x at *
          generalize ys[k] = y at *
          go_wp2
          go_quiet (fail)
          go_wp2
          go_ret
          exact ⟨ret_bool (by simp [HF.out]), bl_tr hB (bl_drn _ _)⟩
      · have HS := Lib.hid (show xs = ys by have h := HE.out; rwa [List.take_of_length_le (by omega), List.take_of_length_le (by have := HN.out; omega)] at h)
        have hge : (xs.length : Int) ≤ (k : Int) := by omega
        go_wp2
        go_ret
        exact ⟨ret_bool (by simp [HS.out]), hB⟩
  · have h1 : ((xs.length : Int) == (ys.length : Int)) = false := by rw [beq_eq_false_iff_ne]; omega
    have h2 : ((xs.length : Int) != (ys.length : Int)) = true := by rw [bne_iff_ne]; omega
    have HF := Lib.hid (show ¬ xs = ys from fun e => hne (by rw [e]))
    clear hne
    go_enter Try.func22, Try.ntmps22
    go_wp2
    go_ret
    exact ⟨ret_bool (by simp [HF.out]), bl0 w⟩
end Go.Proofs.Ytgkeifjnnpcleab
