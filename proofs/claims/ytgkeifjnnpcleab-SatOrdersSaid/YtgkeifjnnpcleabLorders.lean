/- SatOrders: the law's walk. -/
import Derived.Test.YtgkeifjnnpcleabUl
namespace Go.Proofs.Ytgkeifjnnpcleab
open Go.RowKit

theorem add_as {a b r : Int} (h : Hid (addC a b = r)) (ha : inU a) (hb : inU b) (w : World) :
    Calls Try.prog 12 #[.int .u64 a, .int .u64 b] w fun e w' => e = .returned (.int .u64 r) ∧ w = w' := by
  have := add_any a b w ha hb
  rw [h.out] at this
  exact this
theorem times_as {a n r : Int} (h : Hid (timesC a n = r)) (ha : inU a) (hn : n ≤ 9223372036854775807) (w : World) :
    Calls Try.prog 13 #[.int .u64 a, .int .i64 n] w fun e w' => e = .returned (.int .u64 r) ∧ w = w' := by
  have := times_any a n w ha hn
  rw [h.out] at this
  exact this
theorem sum_three {x y z r : Int} (h : Hid (sumC [x, y, z] = r)) (hx : inU x) (hy : inU y) (hz : inU z) (b : Nat) (w : World) (h0 : w.cell? ⟨b, 0, none⟩ = some (.int .u64 x)) (h1 : w.cell? ⟨b, 1, none⟩ = some (.int .u64 y)) (h2 : w.cell? ⟨b, 2, none⟩ = some (.int .u64 z)) :
    Calls Try.prog 11 #[.slice (some ⟨b, 0, none⟩) 3 3] w fun e w' => e = .returned (.int .u64 r) ∧ w = w' := by
  have := sum_any (some ⟨b, 0, none⟩) 3 [x, y, z] w (rowU_three h0 h1 h2) (by intro u hu; simp at hu; rcases hu with rfl | rfl | rfl <;> assumption) (by simp)
  rw [h.out] at this
  exact this
theorem sum_one {x r : Int} (h : Hid (sumC [x] = r)) (hx : inU x) (b : Nat) (w : World) (h0 : w.cell? ⟨b, 0, none⟩ = some (.int .u64 x)) :
    Calls Try.prog 11 #[.slice (some ⟨b, 0, none⟩) 1 1] w fun e w' => e = .returned (.int .u64 r) ∧ w = w' := by
  have := sum_any (some ⟨b, 0, none⟩) 1 [x] w (.inr ⟨b, 0, rfl, fun i z hz => by
    match i, hz with
    | 0, hz => simp at hz; subst hz; exact h0⟩) (by intro u hu; simp at hu; subst hu; exact hx) (by simp)
  rw [h.out] at this
  exact this
theorem sum_none (w : World) : Calls Try.prog 11 #[.slice none 0 0] w fun e w' => e = .returned (.int .u64 0) ∧ w = w' :=
  sum_any none 0 [] w (.inl rfl) (fun z hz => by simp at hz) (by decide)
theorem ne_self (s : Int) : (s != s) = false := bne_self_eq_false s

set_option maxRecDepth 100000 in
set_option maxHeartbeats 4000000 in
theorem orders_walk (a b c n : Int) (w : World) (ua : inU a) (ub : inU b) (uc : inU c) (hn : n ≤ 9223372036854775807) :
    Calls Try.prog 4 #[.agg #[.int .u64 a, .int .u64 b, .int .u64 c], .int .i64 n] w fun e w' => e = .returned (.bool true) ∧ Below w.heap.size w w' := by
  have us := addC_in ua ub
  have uq := addC_in ub uc
  have ut := timesC_in (n := n) ua
  have HBA := Lib.hid (addC_comm b a)
  have HSC := Lib.hid (addC_assoc ua ub uc)
  have HABC := Lib.hid (show sumC [a, b, c] = addC a (addC b c) by simp only [sumC, List.foldl_cons, List.foldl_nil]; rw [zero_addC ua, HSC.out])
  have HCBA := Lib.hid (show sumC [c, b, a] = addC a (addC b c) by simp only [sumC, List.foldl_cons, List.foldl_nil]; rw [zero_addC uc, addC_comm c b, addC_comm])
  have HSA := Lib.hid (show sumC [a] = a by simp only [sumC, List.foldl_cons, List.foldl_nil]; rw [zero_addC ua])
  have HA0 := Lib.hid (addC_zero ua)
  have HAI := Lib.hid (addC_inf ua)
  have HT1 := Lib.hid (timesC_one ua)
  have HTN0 := Lib.hid (show timesC a n = timesC a n from rfl)
  obtain ⟨l1, l2⟩ := addC_le ua ub
  have hmono := addC_mono (a := a) (b := b) c
  have HTS0 : 0 ≤ n → Hid (timesC a (n + 1) = addC (timesC a n) a) := fun h => Lib.hid (timesC_succ ua h)
  have HZ : n ≤ 0 → Hid (timesC a n = 0) := fun h => Lib.hid (timesC_low h)
  obtain ⟨s, hs⟩ : ∃ s, addC a b = s := ⟨_, rfl⟩
  obtain ⟨q, hq⟩ : ∃ q, addC b c = q := ⟨_, rfl⟩
  obtain ⟨t, ht⟩ : ∃ t, addC a q = t := ⟨_, rfl⟩
  obtain ⟨p, hp⟩ : ∃ p, addC a c = p := ⟨_, rfl⟩
  obtain ⟨m, hm⟩ : ∃ m, timesC a n = m := ⟨_, rfl⟩
  obtain ⟨r, hr⟩ : ∃ r, addC m a = r := ⟨_, rfl⟩
  rw [hs] at us HBA HSC l1 l2
  rw [hq] at uq HSC HABC HCBA hmono
  rw [ht] at HSC HABC HCBA
  rw [hp] at hmono
  rw [hm] at ut HTS0 HZ
  rw [hr] at HTS0
  have HAB := Lib.hid hs
  have HBC := Lib.hid hq
  have HAQ := Lib.hid ht
  have HAC := Lib.hid hp
  have HTN := Lib.hid hm
  have HTA := Lib.hid hr
  clear hs hq ht hp hm hr
  have na := ne_self a
  have ns := ne_self s
  have nt := ne_self t
  have ni := ne_self 18446744073709551615
  have nb : (a == a) = true := beq_self_eq_true a
  have nr : (r == r) = true := beq_self_eq_true r
  have hA := bl_al (bl0 w) (.cells #[.int .u64 a, .int .u64 b, .int .u64 c] 30)
  have HB := Lib.hid hA
  clear hA
  by_cases hn0 : n < 0
  · have HTS := HT1
    replace HTN : Hid (timesC a n = 0) := Lib.hid (by rw [HTN.out, (HZ (by omega)).out])
    clear HZ HTS0
    by_cases hab : a ≤ b
    · replace hmono := hmono hab
      go_enter Try.func4, Try.ntmps4
      go_wp2_with (first
          | (go_at_call 12; (with_reducible refine (add_as HAB ua ub _).mono ?_); rintro e w' ⟨rfl, rfl⟩)
          | (go_at_call 12; (with_reducible refine (add_as HBA ub ua _).mono ?_); rintro e w' ⟨rfl, rfl⟩)
          | (go_at_call 12; (with_reducible refine (add_as HSC us uc _).mono ?_); rintro e w' ⟨rfl, rfl⟩)
          | (go_at_call 12; (with_reducible refine (add_as HBC ub uc _).mono ?_); rintro e w' ⟨rfl, rfl⟩)
          | (go_at_call 12; (with_reducible refine (add_as HAQ ua uq _).mono ?_); rintro e w' ⟨rfl, rfl⟩)
          | (go_at_call 12; (with_reducible refine (add_as HA0 ua inU0 _).mono ?_); rintro e w' ⟨rfl, rfl⟩)
          | (go_at_call 12; (with_reducible refine (add_as HAI ua inU_inf _).mono ?_); rintro e w' ⟨rfl, rfl⟩)
          | (go_at_call 12; (with_reducible refine (add_as HAC ua uc _).mono ?_); rintro e w' ⟨rfl, rfl⟩)
          | (go_at_call 12; (with_reducible refine (add_as HTA ut ua _).mono ?_); rintro e w' ⟨rfl, rfl⟩)
          | (go_at_call 11; (with_reducible refine (sum_three HCBA uc ub ua (w.heap.size + 1 + 1) _ (by simp [go_sem]) (by simp [go_sem]) (by simp [go_sem])).mono ?_); rintro e w' ⟨rfl, rfl⟩)
          | (go_at_call 11; (with_reducible refine (sum_three HABC ua ub uc _ _ (by simp [go_sem]) (by simp [go_sem]) (by simp [go_sem])).mono ?_); rintro e w' ⟨rfl, rfl⟩)
          | (go_at_call 11; (with_reducible refine (sum_one HSA ua _ _ (by simp [go_sem])).mono ?_); rintro e w' ⟨rfl, rfl⟩)
          | (go_at_call 11; (with_reducible refine (sum_none _).mono ?_); rintro e w' ⟨rfl, rfl⟩)
          | (go_at_call 13; (with_reducible refine (times_as HT1 ua (by omega) _).mono ?_); rintro e w' ⟨rfl, rfl⟩)
          | (go_at_call 13; (with_reducible refine (times_as HTN ua (by omega) _).mono ?_); rintro e w' ⟨rfl, rfl⟩)
          | (go_at_call 13; (with_reducible refine (times_as HTS ua (by omega) _).mono ?_); rintro e w' ⟨rfl, rfl⟩)
          | (go_at_call 9; (with_reducible refine (awake_any _).mono ?_); rintro e w2 ⟨rfl, hb⟩; replace HB := Lib.hid hb; clear hb))
      go_ret
      exact ⟨rfl, bl_tr (bl_al (bl_al (bl_al (bl_al (bl_al (bl0 w) _) _) _) _) _) HB.out⟩
    · clear hmono
      go_enter Try.func4, Try.ntmps4
      go_wp2_with (first
          | (go_at_call 12; (with_reducible refine (add_as HAB ua ub _).mono ?_); rintro e w' ⟨rfl, rfl⟩)
          | (go_at_call 12; (with_reducible refine (add_as HBA ub ua _).mono ?_); rintro e w' ⟨rfl, rfl⟩)
          | (go_at_call 12; (with_reducible refine (add_as HSC us uc _).mono ?_); rintro e w' ⟨rfl, rfl⟩)
          | (go_at_call 12; (with_reducible refine (add_as HBC ub uc _).mono ?_); rintro e w' ⟨rfl, rfl⟩)
          | (go_at_call 12; (with_reducible refine (add_as HAQ ua uq _).mono ?_); rintro e w' ⟨rfl, rfl⟩)
          | (go_at_call 12; (with_reducible refine (add_as HA0 ua inU0 _).mono ?_); rintro e w' ⟨rfl, rfl⟩)
          | (go_at_call 12; (with_reducible refine (add_as HAI ua inU_inf _).mono ?_); rintro e w' ⟨rfl, rfl⟩)
          | (go_at_call 12; (with_reducible refine (add_as HAC ua uc _).mono ?_); rintro e w' ⟨rfl, rfl⟩)
          | (go_at_call 12; (with_reducible refine (add_as HTA ut ua _).mono ?_); rintro e w' ⟨rfl, rfl⟩)
          | (go_at_call 11; (with_reducible refine (sum_three HCBA uc ub ua (w.heap.size + 1 + 1) _ (by simp [go_sem]) (by simp [go_sem]) (by simp [go_sem])).mono ?_); rintro e w' ⟨rfl, rfl⟩)
          | (go_at_call 11; (with_reducible refine (sum_three HABC ua ub uc _ _ (by simp [go_sem]) (by simp [go_sem]) (by simp [go_sem])).mono ?_); rintro e w' ⟨rfl, rfl⟩)
          | (go_at_call 11; (with_reducible refine (sum_one HSA ua _ _ (by simp [go_sem])).mono ?_); rintro e w' ⟨rfl, rfl⟩)
          | (go_at_call 11; (with_reducible refine (sum_none _).mono ?_); rintro e w' ⟨rfl, rfl⟩)
          | (go_at_call 13; (with_reducible refine (times_as HT1 ua (by omega) _).mono ?_); rintro e w' ⟨rfl, rfl⟩)
          | (go_at_call 13; (with_reducible refine (times_as HTN ua (by omega) _).mono ?_); rintro e w' ⟨rfl, rfl⟩)
          | (go_at_call 13; (with_reducible refine (times_as HTS ua (by omega) _).mono ?_); rintro e w' ⟨rfl, rfl⟩)
          | (go_at_call 9; (with_reducible refine (awake_any _).mono ?_); rintro e w2 ⟨rfl, hb⟩; replace HB := Lib.hid hb; clear hb))
      go_ret
      exact ⟨rfl, bl_tr (bl_al (bl_al (bl_al (bl_al (bl_al (bl0 w) _) _) _) _) _) HB.out⟩
  · replace HTS0 := HTS0 (by omega)
    have HTS := HTS0
    clear HZ HTS0
    by_cases hn1 : 4611686018427387904 < n
    · by_cases hab : a ≤ b
      · replace hmono := hmono hab
        go_enter Try.func4, Try.ntmps4
        go_wp2_with (first
            | (go_at_call 12; (with_reducible refine (add_as HAB ua ub _).mono ?_); rintro e w' ⟨rfl, rfl⟩)
            | (go_at_call 12; (with_reducible refine (add_as HBA ub ua _).mono ?_); rintro e w' ⟨rfl, rfl⟩)
            | (go_at_call 12; (with_reducible refine (add_as HSC us uc _).mono ?_); rintro e w' ⟨rfl, rfl⟩)
            | (go_at_call 12; (with_reducible refine (add_as HBC ub uc _).mono ?_); rintro e w' ⟨rfl, rfl⟩)
            | (go_at_call 12; (with_reducible refine (add_as HAQ ua uq _).mono ?_); rintro e w' ⟨rfl, rfl⟩)
            | (go_at_call 12; (with_reducible refine (add_as HA0 ua inU0 _).mono ?_); rintro e w' ⟨rfl, rfl⟩)
            | (go_at_call 12; (with_reducible refine (add_as HAI ua inU_inf _).mono ?_); rintro e w' ⟨rfl, rfl⟩)
            | (go_at_call 12; (with_reducible refine (add_as HAC ua uc _).mono ?_); rintro e w' ⟨rfl, rfl⟩)
            | (go_at_call 12; (with_reducible refine (add_as HTA ut ua _).mono ?_); rintro e w' ⟨rfl, rfl⟩)
            | (go_at_call 11; (with_reducible refine (sum_three HCBA uc ub ua (w.heap.size + 1 + 1) _ (by simp [go_sem]) (by simp [go_sem]) (by simp [go_sem])).mono ?_); rintro e w' ⟨rfl, rfl⟩)
            | (go_at_call 11; (with_reducible refine (sum_three HABC ua ub uc _ _ (by simp [go_sem]) (by simp [go_sem]) (by simp [go_sem])).mono ?_); rintro e w' ⟨rfl, rfl⟩)
            | (go_at_call 11; (with_reducible refine (sum_one HSA ua _ _ (by simp [go_sem])).mono ?_); rintro e w' ⟨rfl, rfl⟩)
            | (go_at_call 11; (with_reducible refine (sum_none _).mono ?_); rintro e w' ⟨rfl, rfl⟩)
            | (go_at_call 13; (with_reducible refine (times_as HT1 ua (by omega) _).mono ?_); rintro e w' ⟨rfl, rfl⟩)
            | (go_at_call 13; (with_reducible refine (times_as HTN ua (by omega) _).mono ?_); rintro e w' ⟨rfl, rfl⟩)
            | (go_at_call 13; (with_reducible refine (times_as HTS ua (by omega) _).mono ?_); rintro e w' ⟨rfl, rfl⟩)
            | (go_at_call 9; (with_reducible refine (awake_any _).mono ?_); rintro e w2 ⟨rfl, hb⟩; replace HB := Lib.hid hb; clear hb))
        go_ret
        exact ⟨rfl, bl_tr (bl_al (bl_al (bl_al (bl_al (bl_al (bl0 w) _) _) _) _) _) HB.out⟩
      · clear hmono
        go_enter Try.func4, Try.ntmps4
        go_wp2_with (first
            | (go_at_call 12; (with_reducible refine (add_as HAB ua ub _).mono ?_); rintro e w' ⟨rfl, rfl⟩)
            | (go_at_call 12; (with_reducible refine (add_as HBA ub ua _).mono ?_); rintro e w' ⟨rfl, rfl⟩)
            | (go_at_call 12; (with_reducible refine (add_as HSC us uc _).mono ?_); rintro e w' ⟨rfl, rfl⟩)
            | (go_at_call 12; (with_reducible refine (add_as HBC ub uc _).mono ?_); rintro e w' ⟨rfl, rfl⟩)
            | (go_at_call 12; (with_reducible refine (add_as HAQ ua uq _).mono ?_); rintro e w' ⟨rfl, rfl⟩)
            | (go_at_call 12; (with_reducible refine (add_as HA0 ua inU0 _).mono ?_); rintro e w' ⟨rfl, rfl⟩)
            | (go_at_call 12; (with_reducible refine (add_as HAI ua inU_inf _).mono ?_); rintro e w' ⟨rfl, rfl⟩)
            | (go_at_call 12; (with_reducible refine (add_as HAC ua uc _).mono ?_); rintro e w' ⟨rfl, rfl⟩)
            | (go_at_call 12; (with_reducible refine (add_as HTA ut ua _).mono ?_); rintro e w' ⟨rfl, rfl⟩)
            | (go_at_call 11; (with_reducible refine (sum_three HCBA uc ub ua (w.heap.size + 1 + 1) _ (by simp [go_sem]) (by simp [go_sem]) (by simp [go_sem])).mono ?_); rintro e w' ⟨rfl, rfl⟩)
            | (go_at_call 11; (with_reducible refine (sum_three HABC ua ub uc _ _ (by simp [go_sem]) (by simp [go_sem]) (by simp [go_sem])).mono ?_); rintro e w' ⟨rfl, rfl⟩)
            | (go_at_call 11; (with_reducible refine (sum_one HSA ua _ _ (by simp [go_sem])).mono ?_); rintro e w' ⟨rfl, rfl⟩)
            | (go_at_call 11; (with_reducible refine (sum_none _).mono ?_); rintro e w' ⟨rfl, rfl⟩)
            | (go_at_call 13; (with_reducible refine (times_as HT1 ua (by omega) _).mono ?_); rintro e w' ⟨rfl, rfl⟩)
            | (go_at_call 13; (with_reducible refine (times_as HTN ua (by omega) _).mono ?_); rintro e w' ⟨rfl, rfl⟩)
            | (go_at_call 13; (with_reducible refine (times_as HTS ua (by omega) _).mono ?_); rintro e w' ⟨rfl, rfl⟩)
            | (go_at_call 9; (with_reducible refine (awake_any _).mono ?_); rintro e w2 ⟨rfl, hb⟩; replace HB := Lib.hid hb; clear hb))
        go_ret
        exact ⟨rfl, bl_tr (bl_al (bl_al (bl_al (bl_al (bl_al (bl0 w) _) _) _) _) _) HB.out⟩
    · by_cases hab : a ≤ b
      · replace hmono := hmono hab
        go_enter Try.func4, Try.ntmps4
        go_wp2_with (first
            | (go_at_call 12; (with_reducible refine (add_as HAB ua ub _).mono ?_); rintro e w' ⟨rfl, rfl⟩)
            | (go_at_call 12; (with_reducible refine (add_as HBA ub ua _).mono ?_); rintro e w' ⟨rfl, rfl⟩)
            | (go_at_call 12; (with_reducible refine (add_as HSC us uc _).mono ?_); rintro e w' ⟨rfl, rfl⟩)
            | (go_at_call 12; (with_reducible refine (add_as HBC ub uc _).mono ?_); rintro e w' ⟨rfl, rfl⟩)
            | (go_at_call 12; (with_reducible refine (add_as HAQ ua uq _).mono ?_); rintro e w' ⟨rfl, rfl⟩)
            | (go_at_call 12; (with_reducible refine (add_as HA0 ua inU0 _).mono ?_); rintro e w' ⟨rfl, rfl⟩)
            | (go_at_call 12; (with_reducible refine (add_as HAI ua inU_inf _).mono ?_); rintro e w' ⟨rfl, rfl⟩)
            | (go_at_call 12; (with_reducible refine (add_as HAC ua uc _).mono ?_); rintro e w' ⟨rfl, rfl⟩)
            | (go_at_call 12; (with_reducible refine (add_as HTA ut ua _).mono ?_); rintro e w' ⟨rfl, rfl⟩)
            | (go_at_call 11; (with_reducible refine (sum_three HCBA uc ub ua (w.heap.size + 1 + 1) _ (by simp [go_sem]) (by simp [go_sem]) (by simp [go_sem])).mono ?_); rintro e w' ⟨rfl, rfl⟩)
            | (go_at_call 11; (with_reducible refine (sum_three HABC ua ub uc _ _ (by simp [go_sem]) (by simp [go_sem]) (by simp [go_sem])).mono ?_); rintro e w' ⟨rfl, rfl⟩)
            | (go_at_call 11; (with_reducible refine (sum_one HSA ua _ _ (by simp [go_sem])).mono ?_); rintro e w' ⟨rfl, rfl⟩)
            | (go_at_call 11; (with_reducible refine (sum_none _).mono ?_); rintro e w' ⟨rfl, rfl⟩)
            | (go_at_call 13; (with_reducible refine (times_as HT1 ua (by omega) _).mono ?_); rintro e w' ⟨rfl, rfl⟩)
            | (go_at_call 13; (with_reducible refine (times_as HTN ua (by omega) _).mono ?_); rintro e w' ⟨rfl, rfl⟩)
            | (go_at_call 13; (with_reducible refine (times_as HTS ua (by omega) _).mono ?_); rintro e w' ⟨rfl, rfl⟩)
            | (go_at_call 9; (with_reducible refine (awake_any _).mono ?_); rintro e w2 ⟨rfl, hb⟩; replace HB := Lib.hid hb; clear hb))
        go_ret
        exact ⟨rfl, bl_tr (bl_al (bl_al (bl_al (bl_al (bl_al (bl0 w) _) _) _) _) _) HB.out⟩
      · clear hmono
        go_enter Try.func4, Try.ntmps4
        go_wp2_with (first
            | (go_at_call 12; (with_reducible refine (add_as HAB ua ub _).mono ?_); rintro e w' ⟨rfl, rfl⟩)
            | (go_at_call 12; (with_reducible refine (add_as HBA ub ua _).mono ?_); rintro e w' ⟨rfl, rfl⟩)
            | (go_at_call 12; (with_reducible refine (add_as HSC us uc _).mono ?_); rintro e w' ⟨rfl, rfl⟩)
            | (go_at_call 12; (with_reducible refine (add_as HBC ub uc _).mono ?_); rintro e w' ⟨rfl, rfl⟩)
            | (go_at_call 12; (with_reducible refine (add_as HAQ ua uq _).mono ?_); rintro e w' ⟨rfl, rfl⟩)
            | (go_at_call 12; (with_reducible refine (add_as HA0 ua inU0 _).mono ?_); rintro e w' ⟨rfl, rfl⟩)
            | (go_at_call 12; (with_reducible refine (add_as HAI ua inU_inf _).mono ?_); rintro e w' ⟨rfl, rfl⟩)
            | (go_at_call 12; (with_reducible refine (add_as HAC ua uc _).mono ?_); rintro e w' ⟨rfl, rfl⟩)
            | (go_at_call 12; (with_reducible refine (add_as HTA ut ua _).mono ?_); rintro e w' ⟨rfl, rfl⟩)
            | (go_at_call 11; (with_reducible refine (sum_three HCBA uc ub ua (w.heap.size + 1 + 1) _ (by simp [go_sem]) (by simp [go_sem]) (by simp [go_sem])).mono ?_); rintro e w' ⟨rfl, rfl⟩)
            | (go_at_call 11; (with_reducible refine (sum_three HABC ua ub uc _ _ (by simp [go_sem]) (by simp [go_sem]) (by simp [go_sem])).mono ?_); rintro e w' ⟨rfl, rfl⟩)
            | (go_at_call 11; (with_reducible refine (sum_one HSA ua _ _ (by simp [go_sem])).mono ?_); rintro e w' ⟨rfl, rfl⟩)
            | (go_at_call 11; (with_reducible refine (sum_none _).mono ?_); rintro e w' ⟨rfl, rfl⟩)
            | (go_at_call 13; (with_reducible refine (times_as HT1 ua (by omega) _).mono ?_); rintro e w' ⟨rfl, rfl⟩)
            | (go_at_call 13; (with_reducible refine (times_as HTN ua (by omega) _).mono ?_); rintro e w' ⟨rfl, rfl⟩)
            | (go_at_call 13; (with_reducible refine (times_as HTS ua (by omega) _).mono ?_); rintro e w' ⟨rfl, rfl⟩)
            | (go_at_call 9; (with_reducible refine (awake_any _).mono ?_); rintro e w2 ⟨rfl, hb⟩; replace HB := Lib.hid hb; clear hb))
        go_ret
        exact ⟨rfl, bl_tr (bl_al (bl_al (bl_al (bl_al (bl_al (bl0 w) _) _) _) _) _) HB.out⟩
end Go.Proofs.Ytgkeifjnnpcleab
