/- GridBack: its walk. -/
import Derived.Test.YthnpoeobieninaaDoorYg
import Derived.Test.YthnpoeobieninaaDoorYc
namespace Go.Proofs.YthnpoeobieninaaDoor
open Go.RowKit

theorem costT_ge (x : Nat) (z : Int) : 1 ≤ (costT x z).length := by
  unfold costT
  rw [List.length_append]
  have := List.length_pos_iff.2 (decFrom_digits z.toNat).2.1.1
  omega
theorem rowTo_ge (k : Nat) (zs : List Int) (j : Nat) : ∀ x, x ≤ (rowTo k zs j x).length
  | 0 => Nat.zero_le _
  | x + 1 => by
    have h1 := rowTo_ge k zs j x
    have h2 := costT_ge x (zs.getD (j * k + x) 0)
    rw [rowTo_succ, List.length_append]
    omega
theorem textTo_ge (k : Nat) (zs : List Int) : ∀ m, m * k ≤ (textTo k zs m).length
  | 0 => by simp
  | m + 1 => by
    have h1 := textTo_ge k zs m
    have h2 := rowTo_ge k zs m k
    rw [textTo_succ, List.length_append, List.length_append, Nat.add_mul, Nat.one_mul]
    omega
theorem own_cap {w : World} {base : Nat} {e : TypeId} {size n cap : Nat} {a : Option Addr} {xs : List Value} (h : w.ownsRow base e size (.slice a n cap) n xs) : n ≤ cap := by
  rcases h.2 with ⟨e1, h0⟩ | ⟨g, c, cur, e1, _, _, hc, _⟩
  · omega
  · cases e1; exact hc
theorem chk_of {k m n : Nat} (h1 : 1 ≤ k) (h2 : k ≤ 256) (h3 : 1 ≤ m) (h4 : m ≤ 256) (h : n = m * k) : chkF k m (n : Int) = 0 := by
  unfold chkF
  rw [if_pos (mayB_iff.2 ⟨by omega, by omega, by omega, by omega⟩), if_pos (by rw [h, Int.natCast_mul, Int.mul_comm])]

set_option maxRecDepth 100000 in
set_option maxHeartbeats 4000000 in
theorem backg_small (X Y : Int) (a : Option Addr) (n c : Nat) (s : ByteArray) (w : World) (hS : Sits w) (h : smallB X Y n = false ∨ (smallB X Y n = true ∧ (3000 : Int) < (s.size : Int))) :
    Calls Tryd.prog 6 #[.agg #[.int .i64 X, .int .i64 Y, .slice a n c], .string s] w fun e w' => e = .returned (.bool true) ∧ Below w.heap.size w w' := by
  have hA := bl0 w
  rcases h with h1 | ⟨h1, h2⟩
  · have HS1 := Lib.hid h1
    clear h1
    go_enter Tryd.func6, Tryd.ntmps6
    go_wp2_with fail
    refine (small_any _ _ _ _ _ _).mono ?_
    rintro e w1 ⟨rfl, hb⟩
    have hk : Below w.heap.size w w1 := by first | exact hb | exact bl_tr (bl_al (bl0 _) _) hb | exact bl_tr (bl_dr (bl_al (bl0 _) _)) hb | exact bl_tr (bl_al (bl_al (bl0 _) _) _) hb | exact bl_tr (bl_dr (bl_al (bl_al (bl0 _) _) _)) hb | exact bl_tr (bl_al (bl_al (bl_al (bl0 _) _) _) _) hb | exact bl_tr (bl_dr (bl_al (bl_al (bl_al (bl0 _) _) _) _)) hb | exact bl_tr (bl_al (bl_al (bl_al (bl_al (bl0 _) _) _) _) _) hb | exact bl_tr (bl_dr (bl_al (bl_al (bl_al (bl_al (bl0 _) _) _) _) _)) hb | exact bl_tr (bl_al (bl_al (bl_al (bl_al (bl_al (bl0 _) _) _) _) _) _) hb | exact bl_tr (bl_dr (bl_al (bl_al (bl_al (bl_al (bl_al (bl0 _) _) _) _) _) _)) hb | exact bl_tr (bl_al (bl_al (bl_al (bl_al (bl_al (bl_al (bl0 _) _) _) _) _) _) _) hb | exact bl_tr (bl_dr (bl_al (bl_al (bl_al (bl_al (bl_al (bl_al (bl0 _) _) _) _) _) _) _)) hb | exact bl_tr (bl_dr (bl0 _)) hb
    replace hA := bl_tr hA hk
    clear hb hk
    rw [HS1.out]
    go_wp2_with fail
    refine (awake_any _ (hS.later hA)).mono ?_
    rintro e w2 ⟨rfl, hb⟩
    have hk : Below w1.heap.size w1 w2 := by first | exact hb | exact bl_tr (bl_al (bl0 _) _) hb | exact bl_tr (bl_dr (bl_al (bl0 _) _)) hb | exact bl_tr (bl_al (bl_al (bl0 _) _) _) hb | exact bl_tr (bl_dr (bl_al (bl_al (bl0 _) _) _)) hb | exact bl_tr (bl_al (bl_al (bl_al (bl0 _) _) _) _) hb | exact bl_tr (bl_dr (bl_al (bl_al (bl_al (bl0 _) _) _) _)) hb | exact bl_tr (bl_al (bl_al (bl_al (bl_al (bl0 _) _) _) _) _) hb | exact bl_tr (bl_dr (bl_al (bl_al (bl_al (bl_al (bl0 _) _) _) _) _)) hb | exact bl_tr (bl_al (bl_al (bl_al (bl_al (bl_al (bl0 _) _) _) _) _) _) hb | exact bl_tr (bl_dr (bl_al (bl_al (bl_al (bl_al (bl_al (bl0 _) _) _) _) _) _)) hb | exact bl_tr (bl_al (bl_al (bl_al (bl_al (bl_al (bl_al (bl0 _) _) _) _) _) _) _) hb | exact bl_tr (bl_dr (bl_al (bl_al (bl_al (bl_al (bl_al (bl_al (bl0 _) _) _) _) _) _) _)) hb | exact bl_tr (bl_dr (bl0 _)) hb
    replace hA := bl_tr hA hk
    clear hb hk
    go_wp2
    go_ret
    exact ⟨rfl, hA⟩
  · have HS1 := Lib.hid h1
    clear h1
    go_enter Tryd.func6, Tryd.ntmps6
    go_wp2_with fail
    refine (small_any _ _ _ _ _ _).mono ?_
    rintro e w1 ⟨rfl, hb⟩
    have hk : Below w.heap.size w w1 := by first | exact hb | exact bl_tr (bl_al (bl0 _) _) hb | exact bl_tr (bl_dr (bl_al (bl0 _) _)) hb | exact bl_tr (bl_al (bl_al (bl0 _) _) _) hb | exact bl_tr (bl_dr (bl_al (bl_al (bl0 _) _) _)) hb | exact bl_tr (bl_al (bl_al (bl_al (bl0 _) _) _) _) hb | exact bl_tr (bl_dr (bl_al (bl_al (bl_al (bl0 _) _) _) _)) hb | exact bl_tr (bl_al (bl_al (bl_al (bl_al (bl0 _) _) _) _) _) hb | exact bl_tr (bl_dr (bl_al (bl_al (bl_al (bl_al (bl0 _) _) _) _) _)) hb | exact bl_tr (bl_al (bl_al (bl_al (bl_al (bl_al (bl0 _) _) _) _) _) _) hb | exact bl_tr (bl_dr (bl_al (bl_al (bl_al (bl_al (bl_al (bl0 _) _) _) _) _) _)) hb | exact bl_tr (bl_al (bl_al (bl_al (bl_al (bl_al (bl_al (bl0 _) _) _) _) _) _) _) hb | exact bl_tr (bl_dr (bl_al (bl_al (bl_al (bl_al (bl_al (bl_al (bl0 _) _) _) _) _) _) _)) hb | exact bl_tr (bl_dr (bl0 _)) hb
    replace hA := bl_tr hA hk
    clear hb hk
    rw [HS1.out]
    go_wp2_with fail
    refine (awake_any _ (hS.later hA)).mono ?_
    rintro e w2 ⟨rfl, hb⟩
    have hk : Below w1.heap.size w1 w2 := by first | exact hb | exact bl_tr (bl_al (bl0 _) _) hb | exact bl_tr (bl_dr (bl_al (bl0 _) _)) hb | exact bl_tr (bl_al (bl_al (bl0 _) _) _) hb | exact bl_tr (bl_dr (bl_al (bl_al (bl0 _) _) _)) hb | exact bl_tr (bl_al (bl_al (bl_al (bl0 _) _) _) _) hb | exact bl_tr (bl_dr (bl_al (bl_al (bl_al (bl0 _) _) _) _)) hb | exact bl_tr (bl_al (bl_al (bl_al (bl_al (bl0 _) _) _) _) _) hb | exact bl_tr (bl_dr (bl_al (bl_al (bl_al (bl_al (bl0 _) _) _) _) _)) hb | exact bl_tr (bl_al (bl_al (bl_al (bl_al (bl_al (bl0 _) _) _) _) _) _) hb | exact bl_tr (bl_dr (bl_al (bl_al (bl_al (bl_al (bl_al (bl0 _) _) _) _) _) _)) hb | exact bl_tr (bl_al (bl_al (bl_al (bl_al (bl_al (bl_al (bl0 _) _) _) _) _) _) _) hb | exact bl_tr (bl_dr (bl_al (bl_al (bl_al (bl_al (bl_al (bl_al (bl0 _) _) _) _) _) _) _)) hb | exact bl_tr (bl_dr (bl0 _)) hb
    replace hA := bl_tr hA hk
    clear hb hk
    go_wp2
    go_ret
    exact ⟨rfl, hA⟩
set_option maxRecDepth 100000 in
set_option maxHeartbeats 4000000 in
theorem backg_no (X Y : Int) (a : Option Addr) (n c : Nat) (s : ByteArray) (w : World) (hS : Sits w) (h : smallB X Y n = true) (h2 : (s.size : Int) ≤ 3000) (hx : chkF X Y n ≠ 0) :
    Calls Tryd.prog 6 #[.agg #[.int .i64 X, .int .i64 Y, .slice a n c], .string s] w fun e w' => e = .returned (.bool true) ∧ Below w.heap.size w w' := by
  have hA := bl0 w
  have hsl : s.data.toList.length = s.size := by rw [Array.length_toList]; rfl
  have HS1 := Lib.hid h
  have HE := Lib.hid hx
  obtain ⟨q, hq⟩ : ∃ q, chkF X Y n = q := ⟨_, rfl⟩
  have HQ := Lib.hid hq
  have q0 : (q == 0) = false := by rw [beq_eq_false_iff_ne, ← hq]; exact hx
  have q2 := bne_self_eq_false q
  clear h hx hq
  go_enter Tryd.func6, Tryd.ntmps6
  go_wp2_with fail
  refine (small_any _ _ _ _ _ _).mono ?_
  rintro e w1 ⟨rfl, hb⟩
  have hk : Below w.heap.size w w1 := by first | exact hb | exact bl_tr (bl_al (bl0 _) _) hb | exact bl_tr (bl_dr (bl_al (bl0 _) _)) hb | exact bl_tr (bl_al (bl_al (bl0 _) _) _) hb | exact bl_tr (bl_dr (bl_al (bl_al (bl0 _) _) _)) hb | exact bl_tr (bl_al (bl_al (bl_al (bl0 _) _) _) _) hb | exact bl_tr (bl_dr (bl_al (bl_al (bl_al (bl0 _) _) _) _)) hb | exact bl_tr (bl_al (bl_al (bl_al (bl_al (bl0 _) _) _) _) _) hb | exact bl_tr (bl_dr (bl_al (bl_al (bl_al (bl_al (bl0 _) _) _) _) _)) hb | exact bl_tr (bl_al (bl_al (bl_al (bl_al (bl_al (bl0 _) _) _) _) _) _) hb | exact bl_tr (bl_dr (bl_al (bl_al (bl_al (bl_al (bl_al (bl0 _) _) _) _) _) _)) hb | exact bl_tr (bl_al (bl_al (bl_al (bl_al (bl_al (bl_al (bl0 _) _) _) _) _) _) _) hb | exact bl_tr (bl_dr (bl_al (bl_al (bl_al (bl_al (bl_al (bl_al (bl0 _) _) _) _) _) _) _)) hb | exact bl_tr (bl_dr (bl0 _)) hb
  replace hA := bl_tr hA hk
  have f0 := cell_later hb (v := .int .i64 X) (a := ⟨w.heap.size, 0, none⟩) (by simp [go_sem])
  have f1 := cell_later hb (v := .int .i64 Y) (a := ⟨w.heap.size, 1, none⟩) (by simp [go_sem])
  have f2 := cell_later hb (v := .slice a n c) (a := ⟨w.heap.size, 2, none⟩) (by simp [go_sem])
  clear hb hk
  have zf0 := blk_lt f0
  have zf1 := blk_lt f1
  have zf2 := blk_lt f2
  rw [HS1.out]
  go_wp2_with fail
  refine (print_no X Y a n c _ HE.out).mono ?_
  rintro e w2 ⟨rfl, hb⟩
  have hk : Below w1.heap.size w1 w2 := by first | exact hb | exact bl_tr (bl_al (bl0 _) _) hb | exact bl_tr (bl_dr (bl_al (bl0 _) _)) hb | exact bl_tr (bl_al (bl_al (bl0 _) _) _) hb | exact bl_tr (bl_dr (bl_al (bl_al (bl0 _) _) _)) hb | exact bl_tr (bl_al (bl_al (bl_al (bl0 _) _) _) _) hb | exact bl_tr (bl_dr (bl_al (bl_al (bl_al (bl0 _) _) _) _)) hb | exact bl_tr (bl_al (bl_al (bl_al (bl_al (bl0 _) _) _) _) _) hb | exact bl_tr (bl_dr (bl_al (bl_al (bl_al (bl_al (bl0 _) _) _) _) _)) hb | exact bl_tr (bl_al (bl_al (bl_al (bl_al (bl_al (bl0 _) _) _) _) _) _) hb | exact bl_tr (bl_dr (bl_al (bl_al (bl_al (bl_al (bl_al (bl0 _) _) _) _) _) _)) hb | exact bl_tr (bl_al (bl_al (bl_al (bl_al (bl_al (bl_al (bl0 _) _) _) _) _) _) _) hb | exact bl_tr (bl_dr (bl_al (bl_al (bl_al (bl_al (bl_al (bl_al (bl0 _) _) _) _) _) _) _)) hb | exact bl_tr (bl_dr (bl0 _)) hb
  replace hA := bl_tr hA hk
  replace f0 := cell_later hk f0
  replace f1 := cell_later hk f1
  replace f2 := cell_later hk f2
  clear hb hk
  have zf0 := blk_lt f0
  have zf1 := blk_lt f1
  have zf2 := blk_lt f2
  rw [HQ.out]
  go_wp2_with fail
  refine (check_any _ _ _ _ _ _).mono ?_
  rintro e w3 ⟨rfl, hb⟩
  have hk : Below w2.heap.size w2 w3 := by first | exact hb | exact bl_tr (bl_al (bl0 _) _) hb | exact bl_tr (bl_dr (bl_al (bl0 _) _)) hb | exact bl_tr (bl_al (bl_al (bl0 _) _) _) hb | exact bl_tr (bl_dr (bl_al (bl_al (bl0 _) _) _)) hb | exact bl_tr (bl_al (bl_al (bl_al (bl0 _) _) _) _) hb | exact bl_tr (bl_dr (bl_al (bl_al (bl_al (bl0 _) _) _) _)) hb | exact bl_tr (bl_al (bl_al (bl_al (bl_al (bl0 _) _) _) _) _) hb | exact bl_tr (bl_dr (bl_al (bl_al (bl_al (bl_al (bl0 _) _) _) _) _)) hb | exact bl_tr (bl_al (bl_al (bl_al (bl_al (bl_al (bl0 _) _) _) _) _) _) hb | exact bl_tr (bl_dr (bl_al (bl_al (bl_al (bl_al (bl_al (bl0 _) _) _) _) _) _)) hb | exact bl_tr (bl_al (bl_al (bl_al (bl_al (bl_al (bl_al (bl0 _) _) _) _) _) _) _) hb | exact bl_tr (bl_dr (bl_al (bl_al (bl_al (bl_al (bl_al (bl_al (bl0 _) _) _) _) _) _) _)) hb | exact bl_tr (bl_dr (bl0 _)) hb
  replace hA := bl_tr hA hk
  replace f0 := cell_later hk f0
  replace f1 := cell_later hk f1
  replace f2 := cell_later hk f2
  clear hb hk
  have zf0 := blk_lt f0
  have zf1 := blk_lt f1
  have zf2 := blk_lt f2
  rw [HQ.out]
  go_wp2_with fail
  refine (parse_any s _ (hS.later hA)).mono ?_
  rintro e wq ⟨hb, v, rfl, hown⟩
  replace hA := bl_tr hA hb
  clear hb
  by_cases he : (parF s.data.toList).1.e = 0
  · obtain ⟨k2, m2, cs, hp, hk1, hk2, hm1, hm2, hcl, hci, htx⟩ := parF_back he
    rw [hp] at hown ⊢
    simp only at hown
    obtain ⟨a2, cap2, rfl, hrow⟩ := rowH_of_own hown
    have hcap := own_cap hown
    have hge := textTo_ge k2 cs m2
    rw [htx, hsl] at hge
    have hmk : 1 ≤ m2 * k2 := Nat.mul_pos hm1 hk1
    have hc3 : cs.length ≤ 3000 := by omega
    have hst : (⟨(textTo k2 cs m2).toArray⟩ : ByteArray) = s := by rw [htx]
    have HST := Lib.hid hst
    have HCK := Lib.hid (chk_of hk1 hk2 hm1 hm2 hcl)
    have HCL := Lib.hid hcl.symm
    rcases hrow with h | ⟨g2, o2, rfl, hrow2⟩
    · rw [h, List.length_nil] at hcl
      omega
    have hrow : RowH wq (some ⟨g2, o2, none⟩) cs := .inr ⟨g2, o2, rfl, hrow2⟩
    have hb2 := bl_al (bl0 wq) (.cells #[.int .i64 (k2 : Int), .int .i64 (m2 : Int), .slice (some ⟨g2, o2, none⟩) cs.length cap2] 26)
    have HR2 := Lib.hid (hrow.below hb2)
    have HS2 := Lib.hid (hS.later (bl_tr hA hb2))
    have HA2 := Lib.hid (bl_tr hA hb2)
    clear hp hown hst hcl htx hge hrow hrow2 hb2 he
    go_wp2_with fail
    refine (print_yes k2 m2 cs.length g2 o2 cap2 cs _ HR2.out hci HCL.out rfl hcap hc3 hk1 hm1 HCK.out HS2.out).mono ?_
    rw [HST.out]
    rintro e wr ⟨rfl, hb⟩
    have hA3 := bl_tr HA2.out hb
    clear hb
    go_wp2_with fail
    refine (awake_any _ (hS.later hA3)).mono ?_
    rintro e wu ⟨rfl, hb⟩
    have hF := bl_tr hA3 hb
    go_wp2
    go_ret
    exact ⟨rfl, hF⟩
  · obtain ⟨p1, p2⟩ := parF_wrong (by omega) he
    rw [p2] at hown
    obtain ⟨a2, cap2, rfl, _⟩ := rowH_of_own hown
    have he2 : ((parF s.data.toList).1.e != 0) = true := by rw [bne_iff_ne]; exact he
    generalize (parF s.data.toList).1.e = q1 at *
    generalize (parF s.data.toList).1.W = q2 at *
    generalize (parF s.data.toList).1.H = q3 at *
    generalize (parF s.data.toList).2 = q4 at *
    clear hown p2
    go_wp2_with fail
    have hb2 := bl_al (bl0 wq) (.cells #[.int .i64 q2, .int .i64 q3, .slice a2 ([] : List Int).length cap2] 26)
    refine (awake_any _ (hS.later (bl_tr hA hb2))).mono ?_
    rintro e wu ⟨rfl, hb⟩
    have hF := bl_tr (bl_tr hA hb2) hb
    go_wp2
    go_ret
    exact ⟨rfl, hF⟩
set_option maxRecDepth 100000 in
set_option maxHeartbeats 4000000 in
theorem backg_yes (k m N b o c : Nat) (zs : List Int) (s : ByteArray) (w : World) (hr : RowH w (some ⟨b, o, none⟩) zs) (hin : AllH zs) (hN : m * k = N) (hl : zs.length = N) (hcap : N ≤ c) (hl6 : N ≤ 600) (hk : 1 ≤ k) (hkk : k ≤ 256) (hm : 1 ≤ m) (hmm : m ≤ 256) (hx : chkF k m (N : Int) = 0) (hS : Sits w) (h : smallB k m N = true) (h2 : (s.size : Int) ≤ 3000) :
    Calls Tryd.prog 6 #[.agg #[.int .i64 k, .int .i64 m, .slice (some ⟨b, o, none⟩) N c], .string s] w fun e w' => e = .returned (.bool true) ∧ Below w.heap.size w w' := by
  subst hl
  have hA := bl0 w
  have hsl : s.data.toList.length = s.size := by rw [Array.length_toList]; rfl
  have HS1 := Lib.hid h
  have HX := Lib.hid hx
  have htl := textTo_len hin k m
  have hml : m * (6 * k + 1) = 6 * (m * k) + m := by rw [Nat.mul_add, Nat.mul_one, ← Nat.mul_assoc, Nat.mul_comm m 6, Nat.mul_assoc]
  have hpt := parF_text hk hkk hm hmm (by rw [hN]) hin (by omega)
  have HN := Lib.hid hN
  have HPT := Lib.hid (show parF (⟨(textTo k zs m).toArray⟩ : ByteArray).data.toList = (⟨(k : Int), (m : Int), zs, 0⟩, 0) by simpa using hpt)
  clear h hx hN hpt htl hml
  obtain ⟨t, ht⟩ : ∃ t, (⟨(textTo k zs m).toArray⟩ : ByteArray) = t := ⟨_, rfl⟩
  rw [ht] at HPT
  have HT := Lib.hid ht
  clear ht
  go_enter Tryd.func6, Tryd.ntmps6
  go_wp2_with fail
  refine (small_any _ _ _ _ _ _).mono ?_
  rintro e w1 ⟨rfl, hb⟩
  have hk : Below w.heap.size w w1 := by first | exact hb | exact bl_tr (bl_al (bl0 _) _) hb | exact bl_tr (bl_dr (bl_al (bl0 _) _)) hb | exact bl_tr (bl_al (bl_al (bl0 _) _) _) hb | exact bl_tr (bl_dr (bl_al (bl_al (bl0 _) _) _)) hb | exact bl_tr (bl_al (bl_al (bl_al (bl0 _) _) _) _) hb | exact bl_tr (bl_dr (bl_al (bl_al (bl_al (bl0 _) _) _) _)) hb | exact bl_tr (bl_al (bl_al (bl_al (bl_al (bl0 _) _) _) _) _) hb | exact bl_tr (bl_dr (bl_al (bl_al (bl_al (bl_al (bl0 _) _) _) _) _)) hb | exact bl_tr (bl_al (bl_al (bl_al (bl_al (bl_al (bl0 _) _) _) _) _) _) hb | exact bl_tr (bl_dr (bl_al (bl_al (bl_al (bl_al (bl_al (bl0 _) _) _) _) _) _)) hb | exact bl_tr (bl_al (bl_al (bl_al (bl_al (bl_al (bl_al (bl0 _) _) _) _) _) _) _) hb | exact bl_tr (bl_dr (bl_al (bl_al (bl_al (bl_al (bl_al (bl_al (bl0 _) _) _) _) _) _) _)) hb | exact bl_tr (bl_dr (bl0 _)) hb
  replace hA := bl_tr hA hk
  have f0 := cell_later hb (v := .int .i64 (k : Int)) (a := ⟨w.heap.size, 0, none⟩) (by simp [go_sem])
  have f1 := cell_later hb (v := .int .i64 (m : Int)) (a := ⟨w.heap.size, 1, none⟩) (by simp [go_sem])
  have f2 := cell_later hb (v := .slice (some ⟨b, o, none⟩) zs.length c) (a := ⟨w.heap.size, 2, none⟩) (by simp [go_sem])
  clear hb hk
  have zf0 := blk_lt f0
  have zf1 := blk_lt f1
  have zf2 := blk_lt f2
  rw [HS1.out]
  go_wp2_with fail
  refine (print_yes k m zs.length b o c zs _ (hr.below hA) hin HN.out rfl hcap (by omega) hk hm HX.out (hS.later hA)).mono ?_
  rintro e w2 ⟨rfl, hb⟩
  have hk : Below w1.heap.size w1 w2 := by first | exact hb | exact bl_tr (bl_al (bl0 _) _) hb | exact bl_tr (bl_dr (bl_al (bl0 _) _)) hb | exact bl_tr (bl_al (bl_al (bl0 _) _) _) hb | exact bl_tr (bl_dr (bl_al (bl_al (bl0 _) _) _)) hb | exact bl_tr (bl_al (bl_al (bl_al (bl0 _) _) _) _) hb | exact bl_tr (bl_dr (bl_al (bl_al (bl_al (bl0 _) _) _) _)) hb | exact bl_tr (bl_al (bl_al (bl_al (bl_al (bl0 _) _) _) _) _) hb | exact bl_tr (bl_dr (bl_al (bl_al (bl_al (bl_al (bl0 _) _) _) _) _)) hb | exact bl_tr (bl_al (bl_al (bl_al (bl_al (bl_al (bl0 _) _) _) _) _) _) hb | exact bl_tr (bl_dr (bl_al (bl_al (bl_al (bl_al (bl_al (bl0 _) _) _) _) _) _)) hb | exact bl_tr (bl_al (bl_al (bl_al (bl_al (bl_al (bl_al (bl0 _) _) _) _) _) _) _) hb | exact bl_tr (bl_dr (bl_al (bl_al (bl_al (bl_al (bl_al (bl_al (bl0 _) _) _) _) _) _) _)) hb | exact bl_tr (bl_dr (bl0 _)) hb
  replace hA := bl_tr hA hk
  replace f0 := cell_later hk f0
  replace f1 := cell_later hk f1
  replace f2 := cell_later hk f2
  clear hb hk
  have zf0 := blk_lt f0
  have zf1 := blk_lt f1
  have zf2 := blk_lt f2
  rw [HT.out]
  go_wp2_with fail
  refine (parse_any t _ (hS.later hA)).mono ?_
  rintro e wq ⟨hb, v, rfl, hown⟩
  rw [HPT.out] at hown ⊢
  simp only at hown
  obtain ⟨a2, cap2, rfl, hrow⟩ := rowH_of_own hown
  replace f0 := cell_later hb f0
  replace f1 := cell_later hb f1
  replace f2 := cell_later hb f2
  replace hA := bl_tr hA hb
  have zf := blk_lt f0
  have hrz := hr.below hA
  clear hb hown
  have hb2 := bl_al (bl0 wq) (.cells #[.int .i64 (k : Int), .int .i64 (m : Int), .slice a2 zs.length cap2] 26)
  have HR2 := Lib.hid (hrow.below hb2)
  have HR3 := Lib.hid (hrz.below hb2)
  have g0 := cell_later hb2 f0
  replace hA := bl_tr hA hb2
  clear hrow hrz
  go_wp2_with fail
  refine (same_yes k m a2 (some ⟨b, o, none⟩) cap2 c zs zs _ HR2.out HR3.out (by omega)).mono ?_
  rintro e wz ⟨rfl, hb⟩
  rw [show decide (zs = zs) = true from decide_eq_true rfl]
  replace hA := bl_tr hA hb
  clear hb g0 f0 f1 f2 zf hb2 HR2 HR3
  go_wp2_with fail
  refine (parse_any s _ (hS.later hA)).mono ?_
  rintro e wq ⟨hb, v, rfl, hown⟩
  replace hA := bl_tr hA hb
  clear hb
  by_cases he : (parF s.data.toList).1.e = 0
  · obtain ⟨k2, m2, cs, hp, hk1, hk2, hm1, hm2, hcl, hci, htx⟩ := parF_back he
    rw [hp] at hown ⊢
    simp only at hown
    obtain ⟨a2, cap2, rfl, hrow⟩ := rowH_of_own hown
    have hcap := own_cap hown
    have hge := textTo_ge k2 cs m2
    rw [htx, hsl] at hge
    have hmk : 1 ≤ m2 * k2 := Nat.mul_pos hm1 hk1
    have hc3 : cs.length ≤ 3000 := by omega
    have hst : (⟨(textTo k2 cs m2).toArray⟩ : ByteArray) = s := by rw [htx]
    have HST := Lib.hid hst
    have HCK := Lib.hid (chk_of hk1 hk2 hm1 hm2 hcl)
    have HCL := Lib.hid hcl.symm
    rcases hrow with h | ⟨g2, o2, rfl, hrow2⟩
    · rw [h, List.length_nil] at hcl
      omega
    have hrow : RowH wq (some ⟨g2, o2, none⟩) cs := .inr ⟨g2, o2, rfl, hrow2⟩
    have hb2 := bl_al (bl0 wq) (.cells #[.int .i64 (k2 : Int), .int .i64 (m2 : Int), .slice (some ⟨g2, o2, none⟩) cs.length cap2] 26)
    have HR2 := Lib.hid (hrow.below hb2)
    have HS2 := Lib.hid (hS.later (bl_tr hA hb2))
    have HA2 := Lib.hid (bl_tr hA hb2)
    clear hp hown hst hcl htx hge hrow hrow2 hb2 he
    go_wp2_with fail
    refine (print_yes k2 m2 cs.length g2 o2 cap2 cs _ HR2.out hci HCL.out rfl hcap hc3 hk1 hm1 HCK.out HS2.out).mono ?_
    rw [HST.out]
    rintro e wr ⟨rfl, hb⟩
    have hA3 := bl_tr HA2.out hb
    clear hb
    go_wp2_with fail
    refine (awake_any _ (hS.later hA3)).mono ?_
    rintro e wu ⟨rfl, hb⟩
    have hF := bl_tr hA3 hb
    go_wp2
    go_ret
    exact ⟨rfl, hF⟩
  · obtain ⟨p1, p2⟩ := parF_wrong (by omega) he
    rw [p2] at hown
    obtain ⟨a2, cap2, rfl, _⟩ := rowH_of_own hown
    have he2 : ((parF s.data.toList).1.e != 0) = true := by rw [bne_iff_ne]; exact he
    generalize (parF s.data.toList).1.e = q1 at *
    generalize (parF s.data.toList).1.W = q2 at *
    generalize (parF s.data.toList).1.H = q3 at *
    generalize (parF s.data.toList).2 = q4 at *
    clear hown p2
    go_wp2_with fail
    have hb2 := bl_al (bl0 wq) (.cells #[.int .i64 q2, .int .i64 q3, .slice a2 ([] : List Int).length cap2] 26)
    refine (awake_any _ (hS.later (bl_tr hA hb2))).mono ?_
    rintro e wu ⟨rfl, hb⟩
    have hF := bl_tr (bl_tr hA hb2) hb
    go_wp2
    go_ret
    exact ⟨rfl, hF⟩
theorem backg_walk (X Y : Int) (a : Option Addr) (c : Nat) (zs : List Int) (s : ByteArray) (w : World) (hr : RowH w a zs) (hin : AllH zs) (hcap : zs.length ≤ c) (hS : Sits w) :
    Calls Tryd.prog 6 #[.agg #[.int .i64 X, .int .i64 Y, .slice a zs.length c], .string s] w fun e w' => e = .returned (.bool true) ∧ Below w.heap.size w w' := by
  cases h1 : smallB X Y zs.length with
  | false => exact backg_small X Y a _ c s w hS (.inl h1)
  | true =>
    by_cases h2 : (s.size : Int) ≤ 3000
    · by_cases hx : chkF X Y zs.length = 0
      · obtain ⟨hm, hn, hn1, _⟩ := chk_ok hx
        obtain ⟨m1, m2, m3, m4⟩ := mayB_iff.1 hm
        have hl6 : zs.length ≤ 600 := by
          have h := h1
          unfold smallB at h
          simp at h
          omega
        obtain ⟨k, rfl⟩ := Int.eq_ofNat_of_zero_le (show 0 ≤ X by omega)
        obtain ⟨m, rfl⟩ := Int.eq_ofNat_of_zero_le (show 0 ≤ Y by omega)
        have hN : m * k = zs.length := by
          have h : ((m * k : Nat) : Int) = (zs.length : Int) := by rw [hn, Int.natCast_mul, Int.mul_comm]
          omega
        rcases hr with h | ⟨b, o, rfl, h3⟩
        · rw [h] at hn1; simp at hn1
        · exact backg_yes k m zs.length b o c zs s w (.inr ⟨b, o, rfl, h3⟩) hin hN rfl hcap hl6 (by omega) (by omega) (by omega) (by omega) hx hS h1 h2
      · exact backg_no X Y a _ c s w hS h1 h2 hx
    · exact backg_small X Y a _ c s w hS (.inr ⟨h1, by omega⟩)
end Go.Proofs.YthnpoeobieninaaDoor
