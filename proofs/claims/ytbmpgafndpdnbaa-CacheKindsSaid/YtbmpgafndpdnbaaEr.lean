/- Cache's laws: the helpers recent and put. -/
import Derived.Test.YtbmpgafndpdnbaaEp
namespace Go.Proofs.Ytbmpgafndpdnbaa
open Go.RowKit Go.Maps

theorem rec_step {r : Int} {us : List Int} {c : Nat} {x : Int} (hc : us[c]? = some x) (h : ((onceI (us.drop (c + 1)).reverse).take r.toNat).length < r.toNat) :
    (onceI (us.drop c).reverse).take r.toNat = if x ∈ (onceI (us.drop (c + 1)).reverse).take r.toNat then (onceI (us.drop (c + 1)).reverse).take r.toNat else (onceI (us.drop (c + 1)).reverse).take r.toNat ++ [x] := by
  obtain ⟨h1, e1⟩ := List.getElem?_eq_some_iff.1 hc
  rw [List.drop_eq_getElem_cons h1, List.reverse_cons, once_snoc, e1]
  rw [List.length_take] at h
  have hl : (onceI (us.drop (c + 1)).reverse).length < r.toNat := by omega
  rw [List.take_of_length_le (Nat.le_of_lt hl)]
  have hm : (x ∈ onceI (us.drop (c + 1)).reverse) ↔ x ∈ (us.drop (c + 1)).reverse := once_mem
  by_cases hx : x ∈ (us.drop (c + 1)).reverse
  · rw [if_pos hx, if_pos (hm.2 hx), List.take_of_length_le (Nat.le_of_lt hl)]
  · rw [if_neg hx, if_neg (fun h => hx (hm.1 h)), List.take_of_length_le (by simp; omega)]
theorem rec_full {r : Int} {us : List Int} {c : Nat} (h : ¬ ((onceI (us.drop c).reverse).take r.toNat).length < r.toNat) : (onceI (us.drop c).reverse).take r.toNat = recL r us := by
  unfold recL
  have e : us.reverse = (us.drop c).reverse ++ (us.take c).reverse := by rw [← List.reverse_append, List.take_append_drop]
  obtain ⟨d, hd⟩ := once_pre (us.take c).reverse (us.drop c).reverse
  rw [e, hd]
  rw [List.length_take] at h
  rw [List.take_append_of_le_length (by omega)]
theorem turned_of_one {w w' : World} {o : Own} (h : Sep w' w.heap.size ([] ++ [o])) (hb : Below w.heap.size w w') : Turned (fun _ => False) w w' o := by
  obtain ⟨S, h1, h2⟩ := Sep.at (l1 := []) (l2 := []) h
  exact ⟨.of_below hb, S, h1, fun k hk => .inr (h2 k hk).1⟩
set_option maxRecDepth 100000 in
set_option maxHeartbeats 4000000 in
theorem recent16_any (a : Option Addr) (ca : Nat) (us : List Int) (r : Int) (hr : 1 ≤ r ∧ r ≤ 16) (w : World) (hl : us.length ≤ 100000) (ha : RowI w a us) :
    Calls Try.prog 25 #[.slice a us.length ca, .int .i64 r] w fun e w' => ∃ v, e = .returned v ∧ Turned (fun _ => False) w w' (RowO 3 1 v (recL r us).length (cellsI (recL r us))) := by
  obtain ⟨X, hX⟩ : ∃ X, recL r us = X := ⟨_, rfl⟩
  rw [hX]
  obtain ⟨n, hn⟩ : ∃ n, us.length = n := ⟨_, rfl⟩
  rw [hn] at hl ⊢
  obtain ⟨q, hq⟩ : ∃ q, r.toNat = q := ⟨_, rfl⟩
  have hrq : r = (q : Int) := by omega
  have hq16 : q ≤ 16 := by omega
  have HX := Lib.hid hX
  have HN := Lib.hid hn
  have HA := Lib.hid ha
  have HQ := Lib.hid hq
  have HS0 := Lib.hid (Sep.nilrow (show Sep w w.heap.size [] from Sep.nil (Nat.le_refl _)))
  have hw0 : IntKind.i64.wrap ((n : Int) - 1) = (n : Int) - 1 := IntWalk.i64_in _ (by omega)
  have HBL := Lib.hid (bl0 w)
  clear hX hn ha hq hr
  subst hrq
  go_enter Try.func25, Try.ntmps25
  go_wp2_with fail
  go_loopw [5, 6] (fun s i wr => ∃ (c : Nat) (out : List Int), c ≤ n ∧ i = .int .i64 ((c : Int) - 1) ∧ Hid ((onceI (us.drop c).reverse).take q = out) ∧ Hid (Sep wr w.heap.size ([] ++ [RowO 3 1 s out.length (cellsI out)])) ∧ Hid (Below w.heap.size w wr)) (fun _ i _ => (intOf i + 1).toNat)
  case atStart => exact ⟨n, [], Nat.le_refl _, rfl, Lib.hid (by rw [← HN.out]; simp [onceI]), HS0, HBL⟩
  case round =>
    obtain ⟨c, out, hc, rfl, HO, HS, HB⟩ := hrel
    obtain ⟨oa, oc, rfl, hol, hocap, hor⟩ := Sep.rowv HS.out
    have hoq : out.length ≤ q := by have := HO.out; rw [← this, List.length_take]; exact Nat.min_le_left _ _
    have holI : (out.length : Int) ≤ 16 := by omega
    match c, hc with
    | 0, hc =>
      have hge : decide ((0 : Int) ≤ ((0 : Nat) : Int) - 1) = false := by decide
      have HF : Hid (Sep wr w.heap.size ([] ++ [RowO 3 1 (.slice oa out.length oc) X.length (cellsI X)])) := Lib.hid (by
        have e : out = X := by
          have h1 := HO.out
          have h2 := HX.out
          unfold recL at h2
          rw [List.drop_zero, ← HQ.out] at h1
          rw [← h1, h2]
        rw [← e]; exact HS.out)
      clear HO HS
      go_wp2
      go_ret
      exact ⟨_, rfl, turned_of_one HF.out HB.out⟩
    | c + 1, hc =>
      have hc0 : ((c + 1 : Nat) : Int) - 1 = (c : Int) := by omega
      have hc1 : (0 : Int) ≤ (c : Int) := by omega
      have hc2 : (c : Int) < (n : Int) := by omega
      rw [hc0]
      by_cases hlt : out.length < q
      · have hltI : (out.length : Int) < (q : Int) := by omega
        obtain ⟨x, hx⟩ : ∃ x, us[c]? = some x := ⟨_, List.getElem?_eq_getElem (by rw [HN.out]; omega)⟩
        have hst := rec_step (r := (q : Int)) hx (by have := HO.out; rw [Int.toNat_natCast, this]; exact hlt)
        rw [Int.toNat_natCast, HO.out] at hst
        obtain ⟨g, o, rfl, c0⟩ : ∃ g o, a = some ⟨g, o, none⟩ ∧ wr.cell? ⟨g, o + c, none⟩ = some (.int .i64 x) := by
          rcases HA.out with e | ⟨g, o, e, h⟩
          · rw [e] at hx; simp at hx
          · exact ⟨g, o, e, cell_later HB.out (h c x hx)⟩
        have zc := blk_lt c0
        have hcall := in16_any oa oc out x wr (by omega) hor
        have HST := Lib.hid hst
        clear hx hst hor
        go_wp2_with fail
        refine hcall.mono ?_
        rintro e w2 ⟨rfl, rfl⟩
        have hw1 : IntKind.i64.wrap ((c : Int) - 1) = (c : Int) - 1 := IntWalk.i64_in _ (by omega)
        clear hcall
        by_cases hm : x ∈ out
        · have HE : Hid ((onceI (us.drop c).reverse).take q = out) := Lib.hid (by have := HST.out; rw [if_pos hm] at this; exact this)
          rw [decide_eq_true hm]
          clear hm HST
          go_wp2
          go_roundw
          case rel => exact ⟨c, out, by omega, rfl, HE, HS, HB⟩
          case measure => simp [intOf]
        · have HE : Hid ((onceI (us.drop c).reverse).take q = out ++ [x]) := Lib.hid (by have := HST.out; rw [if_neg hm] at this; exact this)
          rw [decide_eq_false hm]
          have hS := HS.out
          clear hm HST
          go_wp2_with (at_builtin; refine wpList_append_intv (W := w2) rfl _ _ rfl x (by rfl) (l1 := []) (l2 := []) (v := .slice oa out.length oc) (n := out.length) (is := out) (B := w.heap.size) hS (by omega) (by rfl) w2.heap.size (by rfl) (by rfl) ?_)
          intro v' w3 h3 hb3
          have H3 := Lib.hid (show Sep w3 w.heap.size ([] ++ [RowO 3 1 v' (out ++ [x]).length (cellsI (out ++ [x]))]) by rw [List.length_append]; exact h3)
          have HB3 := Lib.hid (HB.out.trans hb3)
          clear h3 hb3 hS
          go_wp2
          go_roundw
          case rel => exact ⟨c, out ++ [x], by omega, rfl, HE, H3, HB3⟩
          case measure => simp [intOf]
      · have hge : ¬ (out.length : Int) < (q : Int) := by omega
        have HF : Hid (Sep wr w.heap.size ([] ++ [RowO 3 1 (.slice oa out.length oc) X.length (cellsI X)])) := Lib.hid (by
          have e : out = X := by
            have h1 := rec_full (r := (q : Int)) (us := us) (c := c + 1) (by rw [Int.toNat_natCast, HO.out]; exact hlt)
            rw [Int.toNat_natCast, HO.out] at h1
            rw [h1]; exact HX.out
          rw [← e]; exact HS.out)
        clear HO HS
        go_wp2
        go_ret
        exact ⟨_, rfl, turned_of_one HF.out HB.out⟩
end Go.Proofs.Ytbmpgafndpdnbaa
