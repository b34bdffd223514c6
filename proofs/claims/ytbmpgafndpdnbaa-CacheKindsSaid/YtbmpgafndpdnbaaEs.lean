/- Cache's laws: the helpers put and last. -/
import Derived.Test.YtbmpgafndpdnbaaEr
namespace Go.Proofs.Ytbmpgafndpdnbaa
open Go.RowKit Go.Maps

theorem lastP_take {k : Int} {ls : List AT} {c : Nat} {z : AT} (hz : ls[c]? = some z) : lastP k (ls.take (c + 1)) = if isPut z && decide (z.k = k) then z.v else lastP k (ls.take c) := by
  obtain ⟨h1, e1⟩ := List.getElem?_eq_some_iff.1 hz
  rw [List.take_succ_eq_append_getElem h1, e1, lastP_snoc]
/-- The last number under a key. -/
def lastK (k : Int) (l : List AT) : Int := match l.reverse.find? (fun z => decide (z.k = k)) with | some z => z.v | none => 0
theorem lastK_take {k : Int} {ls : List AT} {c : Nat} {z : AT} (hz : ls[c]? = some z) : lastK k (ls.take (c + 1)) = if z.k = k then z.v else lastK k (ls.take c) := by
  obtain ⟨h1, e1⟩ := List.getElem?_eq_some_iff.1 hz
  unfold lastK
  rw [List.take_succ_eq_append_getElem h1, e1, List.reverse_append, List.reverse_singleton, List.singleton_append, List.find?_cons]
  by_cases e : z.k = k <;> simp [e]

set_option maxRecDepth 100000 in
set_option maxHeartbeats 4000000 in
theorem put16_any (a : Option Addr) (ca : Nat) (ls : List AT) (k : Int) (w : World) (hl : ls.length ≤ 100000) (ha : RowA w a ls) :
    Calls Try.prog 26 #[.slice a ls.length ca, .int .i64 k] w fun e w' => e = .returned (.int .i64 (lastP k ls)) ∧ w' = w := by
  obtain ⟨X, hX⟩ : ∃ X, lastP k ls = X := ⟨_, rfl⟩
  rw [hX]
  obtain ⟨n, hn⟩ : ∃ n, ls.length = n := ⟨_, rfl⟩
  rw [hn] at hl ⊢
  have HX := Lib.hid hX
  have HN := Lib.hid hn
  have HA := Lib.hid ha
  have hw0 : IntKind.i64.wrap ((n : Int) - 1) = (n : Int) - 1 := IntWalk.i64_in _ (by omega)
  clear hX hn ha
  go_enter Try.func26, Try.ntmps26
  go_wp2_with fail
  go_loopw [5] (fun i wr => ∃ c : Nat, c ≤ n ∧ i = .int .i64 ((c : Int) - 1) ∧ Hid (lastP k (ls.take c) = X) ∧ w = wr) (fun i _ => (intOf i + 1).toNat)
  case atStart => exact ⟨n, Nat.le_refl _, rfl, Lib.hid (by rw [← HN.out, List.take_length]; exact HX.out), rfl⟩
  case round =>
    obtain ⟨c, hc, rfl, HO, rfl⟩ := hrel
    match c, hc with
    | 0, hc =>
      have hge : decide ((0 : Int) ≤ ((0 : Nat) : Int) - 1) = false := by decide
      have HF : Hid (X = 0) := Lib.hid (by rw [← HO.out]; simp [lastP, lastR])
      go_wp2
      go_ret
      exact ⟨by rw [HF.out]; rfl, rfl⟩
    | c + 1, hc =>
      have hc0 : ((c + 1 : Nat) : Int) - 1 = (c : Int) := by omega
      have hc1 : (0 : Int) ≤ (c : Int) := by omega
      have hc2 : (c : Int) < (n : Int) := by omega
      have hw1 : IntKind.i64.wrap ((c : Int) - 1) = (c : Int) - 1 := IntWalk.i64_in _ (by omega)
      rw [hc0]
      obtain ⟨z, hz⟩ : ∃ z, ls[c]? = some z := ⟨_, List.getElem?_eq_getElem (by rw [HN.out]; omega)⟩
      have hst := HO.out
      rw [lastP_take hz] at hst
      obtain ⟨g, o, rfl, c0, c1, c2⟩ := HA.out.at hz
      have zc := blk_lt c0
      clear hz HO
      by_cases h0 : z.d = 0
      · have b0 : (z.d != 0) = false := by simp [h0]
        have HE : Hid (lastP k (ls.take c) = X) := Lib.hid (by rw [← hst, if_neg (by simp [isPut, h0])])
        clear h0 hst
        go_wp2
        go_roundw
        case rel => exact ⟨c, by omega, rfl, HE, trivial⟩
        case measure => simp [intOf]
      have b0 : (z.d != 0) = true := by simp [h0]
      by_cases h1 : z.d = 1
      · have b1 : (z.d != 1) = false := by simp [h1]
        have HE : Hid (lastP k (ls.take c) = X) := Lib.hid (by rw [← hst, if_neg (by simp [isPut, h1])])
        clear h0 h1 hst
        go_wp2
        go_roundw
        case rel => exact ⟨c, by omega, rfl, HE, trivial⟩
        case measure => simp [intOf]
      have b1 : (z.d != 1) = true := by simp [h1]
      by_cases h2 : z.d = 2
      · have b2 : (z.d != 2) = false := by simp [h2]
        have HE : Hid (lastP k (ls.take c) = X) := Lib.hid (by rw [← hst, if_neg (by simp [isPut, h2])])
        clear h0 h1 h2 hst
        go_wp2
        go_roundw
        case rel => exact ⟨c, by omega, rfl, HE, trivial⟩
        case measure => simp [intOf]
      have b2 : (z.d != 2) = true := by simp [h2]
      by_cases h3 : z.k = k
      · have b3 : (z.k == k) = true := by simp [h3]
        have HE : Hid (X = z.v) := Lib.hid (by rw [← hst, if_pos (by simp [isPut, h0, h1, h2, h3])])
        clear h0 h1 h2 h3 hst
        go_wp2
        go_ret
        exact ⟨by rw [HE.out]; rfl, rfl⟩
      · have b3 : (z.k == k) = false := by simp [h3]
        have HE : Hid (lastP k (ls.take c) = X) := Lib.hid (by rw [← hst, if_neg (by simp [h3])])
        clear h0 h1 h2 h3 hst
        go_wp2
        go_roundw
        case rel => exact ⟨c, by omega, rfl, HE, trivial⟩
        case measure => simp [intOf]
set_option maxRecDepth 100000 in
set_option maxHeartbeats 4000000 in
theorem last16_any (a : Option Addr) (ca : Nat) (ls : List AT) (k : Int) (w : World) (hl : ls.length ≤ 100000) (ha : RowA w a ls) :
    Calls Try.prog 36 #[.slice a ls.length ca, .int .i64 k] w fun e w' => e = .returned (.int .i64 (lastK k ls)) ∧ w' = w := by
  obtain ⟨X, hX⟩ : ∃ X, lastK k ls = X := ⟨_, rfl⟩
  rw [hX]
  obtain ⟨n, hn⟩ : ∃ n, ls.length = n := ⟨_, rfl⟩
  rw [hn] at hl ⊢
  have HX := Lib.hid hX
  have HN := Lib.hid hn
  have HA := Lib.hid ha
  have hw0 : IntKind.i64.wrap ((n : Int) - 1) = (n : Int) - 1 := IntWalk.i64_in _ (by omega)
  clear hX hn ha
  go_enter Try.func36, Try.ntmps36
  go_wp2_with fail
  go_loopw [5] (fun i wr => ∃ c : Nat, c ≤ n ∧ i = .int .i64 ((c : Int) - 1) ∧ Hid (lastK k (ls.take c) = X) ∧ w = wr) (fun i _ => (intOf i + 1).toNat)
  case atStart => exact ⟨n, Nat.le_refl _, rfl, Lib.hid (by rw [← HN.out, List.take_length]; exact HX.out), rfl⟩
  case round =>
    obtain ⟨c, hc, rfl, HO, rfl⟩ := hrel
    match c, hc with
    | 0, hc =>
      have hge : decide ((0 : Int) ≤ ((0 : Nat) : Int) - 1) = false := by decide
      have HF : Hid (X = 0) := Lib.hid (by rw [← HO.out]; simp [lastK])
      go_wp2
      go_ret
      exact ⟨by rw [HF.out]; rfl, rfl⟩
    | c + 1, hc =>
      have hc0 : ((c + 1 : Nat) : Int) - 1 = (c : Int) := by omega
      have hc1 : (0 : Int) ≤ (c : Int) := by omega
      have hc2 : (c : Int) < (n : Int) := by omega
      have hw1 : IntKind.i64.wrap ((c : Int) - 1) = (c : Int) - 1 := IntWalk.i64_in _ (by omega)
      rw [hc0]
      obtain ⟨z, hz⟩ : ∃ z, ls[c]? = some z := ⟨_, List.getElem?_eq_getElem (by rw [HN.out]; omega)⟩
      have hst := HO.out
      rw [lastK_take hz] at hst
      obtain ⟨g, o, rfl, c0, c1, c2⟩ := HA.out.at hz
      have zc := blk_lt c0
      clear hz HO
      by_cases h3 : z.k = k
      · have b3 : (z.k == k) = true := by simp [h3]
        have HE : Hid (X = z.v) := Lib.hid (by rw [← hst, if_pos h3])
        clear h3 hst
        go_wp2
        go_ret
        exact ⟨by rw [HE.out]; rfl, rfl⟩
      · have b3 : (z.k == k) = false := by simp [h3]
        have HE : Hid (lastK k (ls.take c) = X) := Lib.hid (by rw [← hst, if_neg h3])
        clear h3 hst
        go_wp2
        go_roundw
        case rel => exact ⟨c, by omega, rfl, HE, trivial⟩
        case measure => simp [intOf]
end Go.Proofs.Ytbmpgafndpdnbaa
