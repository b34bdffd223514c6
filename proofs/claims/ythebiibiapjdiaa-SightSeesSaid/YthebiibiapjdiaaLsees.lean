/- SightSees: the law's walk. -/
import Derived.Test.YthebiibiapjdiaaV1
namespace Go.Proofs.Ythebiibiapjdiaa
open Go.RowKit

set_option maxRecDepth 100000 in
set_option maxHeartbeats 4000000 in
theorem sees_out1 (A B r : Int) (a a2 : Option Addr) (n c c2 : Nat) (zs : List (Int × Int)) (w : World) (h1 : smallB A B n = false) :
    Calls Try.prog 3 #[.agg #[.int .i64 A, .int .i64 B, .slice a n c], .slice a2 zs.length c2, .int .i64 r] w fun e w' => e = .returned (.bool true) ∧ Below w.heap.size w w' := by
  have hA := bl0 w
  have H1 := Lib.hid h1
  clear h1
  go_enter Try.func3, Try.ntmps3
  go_wp2_with fail
  refine (small_any _ _ _ _ _ _).mono ?_
  rintro e w1 ⟨rfl, hb⟩
  have hk : Below w.heap.size w w1 := by first | exact hb | exact bl_tr (bl_al (bl0 _) _) hb | exact bl_tr (bl_dr (bl_al (bl0 _) _)) hb | exact bl_tr (bl_al (bl_al (bl0 _) _) _) hb | exact bl_tr (bl_dr (bl_al (bl_al (bl0 _) _) _)) hb | exact bl_tr (bl_al (bl_al (bl_al (bl0 _) _) _) _) hb | exact bl_tr (bl_dr (bl_al (bl_al (bl_al (bl0 _) _) _) _)) hb | exact bl_tr (bl_al (bl_al (bl_al (bl_al (bl0 _) _) _) _) _) hb | exact bl_tr (bl_dr (bl_al (bl_al (bl_al (bl_al (bl0 _) _) _) _) _)) hb | exact bl_tr (bl_al (bl_al (bl_al (bl_al (bl_al (bl0 _) _) _) _) _) _) hb | exact bl_tr (bl_dr (bl_al (bl_al (bl_al (bl_al (bl_al (bl0 _) _) _) _) _) _)) hb | exact bl_tr (bl_al (bl_al (bl_al (bl_al (bl_al (bl_al (bl0 _) _) _) _) _) _) _) hb | exact bl_tr (bl_dr (bl_al (bl_al (bl_al (bl_al (bl_al (bl_al (bl0 _) _) _) _) _) _) _)) hb | exact bl_tr (bl_dr (bl0 _)) hb
  replace hA := bl_tr hA hk
  clear hb hk
  rw [H1.out]
  go_wp2_with fail
  refine (awake_any _).mono ?_
  rintro e w2 ⟨rfl, hb⟩
  have hk : Below w1.heap.size w1 w2 := by first | exact hb | exact bl_tr (bl_al (bl0 _) _) hb | exact bl_tr (bl_dr (bl_al (bl0 _) _)) hb | exact bl_tr (bl_al (bl_al (bl0 _) _) _) hb | exact bl_tr (bl_dr (bl_al (bl_al (bl0 _) _) _)) hb | exact bl_tr (bl_al (bl_al (bl_al (bl0 _) _) _) _) hb | exact bl_tr (bl_dr (bl_al (bl_al (bl_al (bl0 _) _) _) _)) hb | exact bl_tr (bl_al (bl_al (bl_al (bl_al (bl0 _) _) _) _) _) hb | exact bl_tr (bl_dr (bl_al (bl_al (bl_al (bl_al (bl0 _) _) _) _) _)) hb | exact bl_tr (bl_al (bl_al (bl_al (bl_al (bl_al (bl0 _) _) _) _) _) _) hb | exact bl_tr (bl_dr (bl_al (bl_al (bl_al (bl_al (bl_al (bl0 _) _) _) _) _) _)) hb | exact bl_tr (bl_al (bl_al (bl_al (bl_al (bl_al (bl_al (bl0 _) _) _) _) _) _) _) hb | exact bl_tr (bl_dr (bl_al (bl_al (bl_al (bl_al (bl_al (bl_al (bl0 _) _) _) _) _) _) _)) hb | exact bl_tr (bl_dr (bl0 _)) hb
  replace hA := bl_tr hA hk
  clear hb hk
  go_wp2
  go_ret
  exact ⟨rfl, hA⟩
set_option maxRecDepth 100000 in
set_option maxHeartbeats 4000000 in
theorem sees_out2 (A B r : Int) (a a2 : Option Addr) (n c c2 : Nat) (zs : List (Int × Int)) (w : World) (h1 : smallB A B n = true) (hl : 6 < zs.length) :
    Calls Try.prog 3 #[.agg #[.int .i64 A, .int .i64 B, .slice a n c], .slice a2 zs.length c2, .int .i64 r] w fun e w' => e = .returned (.bool true) ∧ Below w.heap.size w w' := by
  have hA := bl0 w
  have H1 := Lib.hid h1
  have hl2 : (6 : Int) < (zs.length : Int) := by omega
  clear h1
  go_enter Try.func3, Try.ntmps3
  go_wp2_with fail
  refine (small_any _ _ _ _ _ _).mono ?_
  rintro e w1 ⟨rfl, hb⟩
  have hk : Below w.heap.size w w1 := by first | exact hb | exact bl_tr (bl_al (bl0 _) _) hb | exact bl_tr (bl_dr (bl_al (bl0 _) _)) hb | exact bl_tr (bl_al (bl_al (bl0 _) _) _) hb | exact bl_tr (bl_dr (bl_al (bl_al (bl0 _) _) _)) hb | exact bl_tr (bl_al (bl_al (bl_al (bl0 _) _) _) _) hb | exact bl_tr (bl_dr (bl_al (bl_al (bl_al (bl0 _) _) _) _)) hb | exact bl_tr (bl_al (bl_al (bl_al (bl_al (bl0 _) _) _) _) _) hb | exact bl_tr (bl_dr (bl_al (bl_al (bl_al (bl_al (bl0 _) _) _) _) _)) hb | exact bl_tr (bl_al (bl_al (bl_al (bl_al (bl_al (bl0 _) _) _) _) _) _) hb | exact bl_tr (bl_dr (bl_al (bl_al (bl_al (bl_al (bl_al (bl0 _) _) _) _) _) _)) hb | exact bl_tr (bl_al (bl_al (bl_al (bl_al (bl_al (bl_al (bl0 _) _) _) _) _) _) _) hb | exact bl_tr (bl_dr (bl_al (bl_al (bl_al (bl_al (bl_al (bl_al (bl0 _) _) _) _) _) _) _)) hb | exact bl_tr (bl_dr (bl0 _)) hb
  replace hA := bl_tr hA hk
  clear hb hk
  rw [H1.out]
  go_wp2_with fail
  refine (awake_any _).mono ?_
  rintro e w2 ⟨rfl, hb⟩
  have hk : Below w1.heap.size w1 w2 := by first | exact hb | exact bl_tr (bl_al (bl0 _) _) hb | exact bl_tr (bl_dr (bl_al (bl0 _) _)) hb | exact bl_tr (bl_al (bl_al (bl0 _) _) _) hb | exact bl_tr (bl_dr (bl_al (bl_al (bl0 _) _) _)) hb | exact bl_tr (bl_al (bl_al (bl_al (bl0 _) _) _) _) hb | exact bl_tr (bl_dr (bl_al (bl_al (bl_al (bl0 _) _) _) _)) hb | exact bl_tr (bl_al (bl_al (bl_al (bl_al (bl0 _) _) _) _) _) hb | exact bl_tr (bl_dr (bl_al (bl_al (bl_al (bl_al (bl0 _) _) _) _) _)) hb | exact bl_tr (bl_al (bl_al (bl_al (bl_al (bl_al (bl0 _) _) _) _) _) _) hb | exact bl_tr (bl_dr (bl_al (bl_al (bl_al (bl_al (bl_al (bl0 _) _) _) _) _) _)) hb | exact bl_tr (bl_al (bl_al (bl_al (bl_al (bl_al (bl_al (bl0 _) _) _) _) _) _) _) hb | exact bl_tr (bl_dr (bl_al (bl_al (bl_al (bl_al (bl_al (bl_al (bl0 _) _) _) _) _) _) _)) hb | exact bl_tr (bl_dr (bl0 _)) hb
  replace hA := bl_tr hA hk
  clear hb hk
  go_wp2
  go_ret
  exact ⟨rfl, hA⟩

/-- What the document asks for, behind k of the cells. -/
def wantK (A B e0 : Int) (zs : List (Int × Int)) (k : Nat) : Int := if e0 ≠ 0 then e0 else if ∀ z ∈ zs.take k, inB A B z.1 z.2 = true then 0 else 10
theorem wantK_keep {A B e0 : Int} {zs : List (Int × Int)} {k : Nat} (h : wantK A B e0 zs k ≠ 0) : wantK A B e0 zs (k + 1) = wantK A B e0 zs k := by
  unfold wantK at h ⊢
  split
  · rfl
  · rename_i h0
    rw [if_neg h0] at h
    split at h
    · exact absurd rfl h
    · rename_i h1
      rw [if_neg h1, if_neg]
      intro h2
      exact h1 fun z hz => h2 z ((List.take_prefix_take_left (l := zs) (Nat.le_succ k)).subset hz)
theorem wantK_next {A B e0 : Int} {zs : List (Int × Int)} {k : Nat} (hk : k < zs.length) (h : wantK A B e0 zs k = 0) : wantK A B e0 zs (k + 1) = if inB A B zs[k].1 zs[k].2 = true then 0 else 10 := by
  unfold wantK at h ⊢
  by_cases h0 : e0 ≠ 0
  · rw [if_pos h0] at h; exact absurd h h0
  · rw [if_neg h0] at h ⊢
    have h1 : ∀ z ∈ zs.take k, inB A B z.1 z.2 = true := by
      refine Classical.byContradiction fun h1 => ?_
      rw [if_neg h1] at h
      cases h
    rw [List.take_succ_eq_append_getElem hk]
    by_cases h2 : inB A B zs[k].1 zs[k].2 = true
    · rw [if_pos h2, if_pos]
      intro z hz
      rcases List.mem_append.1 hz with hz | hz
      · exact h1 z hz
      · rw [List.mem_singleton.1 hz]; exact h2
    · rw [if_neg h2, if_neg]
      intro h3
      exact h2 (h3 _ (List.mem_append_right _ (List.mem_singleton.2 rfl)))
/-- What is asked ahead of the cells. -/
def want0 (A B n r : Int) : Int := if chkF A B n ≠ 0 then chkF A B n else if r < 0 ∨ 16 < r then 1 else 0
theorem want_all (A B n r : Int) (zs : List (Int × Int)) : wantK A B (want0 A B n r) zs zs.length = errA A B n r zs := by
  unfold wantK want0 errA
  rw [List.take_length]
  by_cases h1 : chkF A B n ≠ 0
  · rw [if_pos h1, if_pos h1, if_pos h1]
  · rw [if_neg h1, if_neg h1]
    by_cases h2 : r < 0 ∨ 16 < r
    · rw [if_pos h2, if_pos (by decide), if_pos h2]
    · rw [if_neg h2, if_neg (fun h => h rfl), if_neg h2]

set_option maxRecDepth 100000 in
set_option maxHeartbeats 16000000 in
theorem sees_err (A B r : Int) (a a2 : Option Addr) (c c2 : Nat) (fs : List Int) (zs : List (Int × Int)) (w : World) (hz : RowC w a2 zs) (h1 : smallB A B fs.length = true) (hl : zs.length ≤ 6) (he : errA A B fs.length r zs ≠ 0) :
    Calls Try.prog 3 #[.agg #[.int .i64 A, .int .i64 B, .slice a fs.length c], .slice a2 zs.length c2, .int .i64 r] w fun e w' => e = .returned (.bool true) ∧ Below w.heap.size w w' := by
  have hA := bl0 w
  have H1 := Lib.hid h1
  have HE := Lib.hid he
  have hl2 : (zs.length : Int) ≤ 6 := by omega
  obtain ⟨q1, hq1⟩ : ∃ q, errA A B fs.length r zs = q := ⟨_, rfl⟩
  have HQ1 := Lib.hid hq1
  have hq10 : (q1 != 0) = true := by rw [bne_iff_ne, ← hq1]; exact he
  have hq11 := beq_self_eq_true q1
  obtain ⟨ck, hck⟩ : ∃ q, chkF A B fs.length = q := ⟨_, rfl⟩
  have HCK := Lib.hid hck
  have key : ((ck == 0) = false ∧ want0 A B fs.length r = ck) ∨ (ck = 0 ∧ (r < 0 ∨ (¬ r < 0 ∧ 16 < r)) ∧ want0 A B fs.length r = 1) ∨ (ck = 0 ∧ ¬ r < 0 ∧ ¬ 16 < r ∧ want0 A B fs.length r = 0) := by
    unfold want0
    rw [hck]
    by_cases h : ck = 0
    · right
      rw [if_neg (fun e => e h)]
      by_cases h2 : r < 0 ∨ 16 < r
      · left; rw [if_pos h2]; exact ⟨h, by omega, rfl⟩
      · right; rw [if_neg h2]; exact ⟨h, by omega, by omega, rfl⟩
    · left; rw [if_pos h]; exact ⟨beq_eq_false_iff_ne.2 h, rfl⟩
  have hw00 : wantK A B (want0 A B fs.length r) zs 0 = want0 A B fs.length r := by
    unfold wantK
    split
    · rfl
    · rename_i h; rw [if_pos (by simp)]; exact (Classical.not_not.1 h).symm
  have HW00 := Lib.hid hw00
  clear h1 he hq1 hck hw00
  go_enter Try.func3, Try.ntmps3
  go_wp2_with fail
  refine (small_any _ _ _ _ _ _).mono ?_
  rintro e w1 ⟨rfl, hb⟩
  have hk : Below w.heap.size w w1 := by first | exact hb | exact bl_tr (bl_al (bl0 _) _) hb | exact bl_tr (bl_dr (bl_al (bl0 _) _)) hb | exact bl_tr (bl_al (bl_al (bl0 _) _) _) hb | exact bl_tr (bl_dr (bl_al (bl_al (bl0 _) _) _)) hb | exact bl_tr (bl_al (bl_al (bl_al (bl0 _) _) _) _) hb | exact bl_tr (bl_dr (bl_al (bl_al (bl_al (bl0 _) _) _) _)) hb | exact bl_tr (bl_al (bl_al (bl_al (bl_al (bl0 _) _) _) _) _) hb | exact bl_tr (bl_dr (bl_al (bl_al (bl_al (bl_al (bl0 _) _) _) _) _)) hb | exact bl_tr (bl_al (bl_al (bl_al (bl_al (bl_al (bl0 _) _) _) _) _) _) hb | exact bl_tr (bl_dr (bl_al (bl_al (bl_al (bl_al (bl_al (bl0 _) _) _) _) _) _)) hb | exact bl_tr (bl_al (bl_al (bl_al (bl_al (bl_al (bl_al (bl0 _) _) _) _) _) _) _) hb | exact bl_tr (bl_dr (bl_al (bl_al (bl_al (bl_al (bl_al (bl_al (bl0 _) _) _) _) _) _) _)) hb | exact bl_tr (bl_dr (bl0 _)) hb
  replace hA := bl_tr hA hk
  have f0 := cell_later hb (v := .int .i64 A) (a := ⟨w.heap.size, 0, none⟩) (by simp [go_sem])
  have f1 := cell_later hb (v := .int .i64 B) (a := ⟨w.heap.size, 1, none⟩) (by simp [go_sem])
  have f2 := cell_later hb (v := .slice a fs.length c) (a := ⟨w.heap.size, 2, none⟩) (by simp [go_sem])
  clear hb hk
  have zf0 := blk_lt f0
  have zf1 := blk_lt f1
  have zf2 := blk_lt f2
  rw [H1.out]
  go_wp2_with fail
  refine (sall_no A B r a a2 fs.length c c2 zs _ (hz.below hA) (by omega) HE.out).mono ?_
  rintro e w2 ⟨rfl, hb⟩
  have hk : Below w1.heap.size w1 w2 := by first | exact hb | exact bl_tr (bl_al (bl0 _) _) hb | exact bl_tr (bl_dr (bl_al (bl0 _) _)) hb | exact bl_tr (bl_al (bl_al (bl0 _) _) _) hb | exact bl_tr (bl_dr (bl_al (bl_al (bl0 _) _) _)) hb | exact bl_tr (bl_al (bl_al (bl_al (bl0 _) _) _) _) hb | exact bl_tr (bl_dr (bl_al (bl_al (bl_al (bl0 _) _) _) _)) hb | exact bl_tr (bl_al (bl_al (bl_al (bl_al (bl0 _) _) _) _) _) hb | exact bl_tr (bl_dr (bl_al (bl_al (bl_al (bl_al (bl0 _) _) _) _) _)) hb | exact bl_tr (bl_al (bl_al (bl_al (bl_al (bl_al (bl0 _) _) _) _) _) _) hb | exact bl_tr (bl_dr (bl_al (bl_al (bl_al (bl_al (bl_al (bl0 _) _) _) _) _) _)) hb | exact bl_tr (bl_al (bl_al (bl_al (bl_al (bl_al (bl_al (bl0 _) _) _) _) _) _) _) hb | exact bl_tr (bl_dr (bl_al (bl_al (bl_al (bl_al (bl_al (bl_al (bl0 _) _) _) _) _) _) _)) hb | exact bl_tr (bl_dr (bl0 _)) hb
  replace hA := bl_tr hA hk
  replace f0 := cell_later hk f0
  replace f1 := cell_later hk f1
  replace f2 := cell_later hk f2
  clear hb hk
  have zf0 := blk_lt f0
  have zf1 := blk_lt f1
  have zf2 := blk_lt f2
  rw [HQ1.out]
  go_wp2_with fail
  refine (rcheck_any _ _ _ _ _ _).mono ?_
  rintro e w3 ⟨rfl, hb⟩
  have hk : Below w2.heap.size w2 w3 := by first | exact hb | exact bl_tr (bl_al (bl0 _) _) hb | exact bl_tr (bl_dr (bl_al (bl0 _) _)) hb | exact bl_tr (bl_al (bl_al (bl0 _) _) _) hb | exact bl_tr (bl_dr (bl_al (bl_al (bl0 _) _) _)) hb | exact bl_tr (bl_al (bl_al (bl_al (bl0 _) _) _) _) hb | exact bl_tr (bl_dr (bl_al (bl_al (bl_al (bl0 _) _) _) _)) hb | exact bl_tr (bl_al (bl_al (bl_al (bl_al (bl0 _) _) _) _) _) hb | exact bl_tr (bl_dr (bl_al (bl_al (bl_al (bl_al (bl0 _) _) _) _) _)) hb | exact bl_tr (bl_al (bl_al (bl_al (bl_al (bl_al (bl0 _) _) _) _) _) _) hb | exact bl_tr (bl_dr (bl_al (bl_al (bl_al (bl_al (bl_al (bl0 _) _) _) _) _) _)) hb | exact bl_tr (bl_al (bl_al (bl_al (bl_al (bl_al (bl_al (bl0 _) _) _) _) _) _) _) hb | exact bl_tr (bl_dr (bl_al (bl_al (bl_al (bl_al (bl_al (bl_al (bl0 _) _) _) _) _) _) _)) hb | exact bl_tr (bl_dr (bl0 _)) hb
  replace hA := bl_tr hA hk
  replace f0 := cell_later hk f0
  replace f1 := cell_later hk f1
  replace f2 := cell_later hk f2
  clear hb hk
  have zf0 := blk_lt f0
  have zf1 := blk_lt f1
  have zf2 := blk_lt f2
  rw [HCK.out]
  have hz3 := hz.below hA
  have F0 := Lib.hid f0
  have F1 := Lib.hid f1
  have hzf := blk_lt f0
  rcases key with ⟨e1, e2⟩ | ⟨rfl, e1, e2⟩ | ⟨rfl, e1, e3, e2⟩
  · have HW0 := Lib.hid (HW00.out.trans e2)
    clear e2 HW00
    go_wp2_with fail
    clear f0 f1 f2
    go_loopw [9, 10] (fun v i wr => ∃ k : Nat, k ≤ zs.length ∧ i = .int .i64 k ∧ v = .int .i64 (wantK A B (want0 A B fs.length r) zs k) ∧ Below w3.heap.size w3 wr) (fun _ i _ => zs.length - (intOf i).toNat)
    case atStart => exact ⟨0, Nat.zero_le _, rfl, by rw [HW0.out], bl0 _⟩
    case round =>
      obtain ⟨k, hk, rfl, rfl, hB⟩ := hrel
      have hk0 : (0 : Int) ≤ (k : Int) := by omega
      by_cases hlt : k < zs.length
      · have hlt2 : (k : Int) < (zs.length : Int) := by omega
        obtain ⟨gz, oz, rfl, p0, p1⟩ := hz3.cell hlt
        replace p0 := cell_later hB p0
        replace p1 := cell_later hB p1
        have f0 := cell_later hB F0.out
        have f1 := cell_later hB F1.out
        obtain ⟨x, hx⟩ : ∃ x, zs[k].1 = x := ⟨_, rfl⟩
        obtain ⟨y, hy⟩ : ∃ y, zs[k].2 = y := ⟨_, rfl⟩
        have HKEEP := Lib.hid (wantK_keep (A := A) (B := B) (e0 := want0 A B fs.length r) (zs := zs) (k := k))
        have HNEXT := Lib.hid (wantK_next (A := A) (B := B) (e0 := want0 A B fs.length r) (zs := zs) (k := k) hlt)
        rw [hx] at p0 HNEXT
        rw [hy] at p1 HNEXT
        obtain ⟨q, hq⟩ : ∃ q, wantK A B (want0 A B fs.length r) zs k = q := ⟨_, rfl⟩
        rw [hq] at HKEEP HNEXT
        rw [hq]
        clear hx hy hq
        have hD := bl_dr (bl0 wr)
        by_cases hq0 : q = 0
        · subst hq0
          have hnx := HNEXT.out rfl
          have HNX := Lib.hid hnx
          clear hnx
          go_upto_region 10 with fail
          refine (wpIn_wide (n := 11)).1 ?_
          refine ordS_begin (S := (fun w' : World => w'.cell? ⟨gz, oz + k * 2, none⟩ = some (.int .i64 x) ∧ w'.cell? ⟨gz, oz + k * 2 + 1, none⟩ = some (.int .i64 y) ∧ w'.cell? ⟨w.heap.size, 0, none⟩ = some (.int .i64 A) ∧ w'.cell? ⟨w.heap.size, 1, none⟩ = some (.int .i64 B))) (by kernel_rfl) ⟨cell_later hD p0, cell_later hD p1, cell_later hD f0, cell_later hD f1⟩ (fun hH => ?_)
          first
            | (refine' ordS_take (i := 0) (oi := { dst := some 47, op := Op.move (Operand.tmp 9), type := 31, pos := _, after := #[], guard := none }) (v := _) rfl (by kernel_rfl) (by kernel_rfl) (by kernel_rfl) (by kernel_rfl) (fun _ _ _ h => h) (by assumption) (Or.inl ⟨by rfl, ?hy1⟩) (fun _ => rfl) ?rest1
               case hy1 => (intro w hSw; (try dsimp only at hSw); go_simp; try with_reducible rfl))
            | (refine ordS_take (i := 0) (oi := { dst := some 47, op := Op.move (Operand.tmp 9), type := 31, pos := _, after := #[], guard := none }) (v := undef) rfl (by kernel_rfl) (by kernel_rfl) (by kernel_rfl) (by kernel_rfl) (fun _ _ _ h => h) (by assumption) (Or.inr ⟨by rfl, rfl⟩) (fun _ => rfl) ?_)
          try simp only [Act.put, List.setIfInBounds_toArray, List.set_cons_zero, List.set_cons_succ]
          first
            | (refine' ordS_take (i := 1) (oi := { dst := some 48, op := Op.binOp BinOp.eql 31 (Operand.tmp 47) (Operand.const (Value.int IntKind.i64 0)) 31, type := 4, pos := _, after := #[{ on := 0, ground := Ground.data }], guard := none }) (v := _) rfl (by kernel_rfl) (by kernel_rfl) (by kernel_rfl) (by kernel_rfl) (fun _ _ _ h => h) (by assumption) (Or.inl ⟨by rfl, ?hy2⟩) (fun _ => rfl) ?rest2
               case hy2 => (intro w hSw; (try dsimp only at hSw); go_simp; try with_reducible rfl))
            | (refine ordS_take (i := 1) (oi := { dst := some 48, op := Op.binOp BinOp.eql 31 (Operand.tmp 47) (Operand.const (Value.int IntKind.i64 0)) 31, type := 4, pos := _, after := #[{ on := 0, ground := Ground.data }], guard := none }) (v := undef) rfl (by kernel_rfl) (by kernel_rfl) (by kernel_rfl) (by kernel_rfl) (fun _ _ _ h => h) (by assumption) (Or.inr ⟨by rfl, rfl⟩) (fun _ => rfl) ?_)
          try simp only [Act.put, List.setIfInBounds_toArray, List.set_cons_zero, List.set_cons_succ]
          first
            | (refine' ordS_take (i := 2) (oi := { dst := some 49, op := Op.move (Operand.tmp 48), type := 4, pos := _, after := #[{ on := 1, ground := Ground.data }], guard := none }) (v := _) rfl (by kernel_rfl) (by kernel_rfl) (by kernel_rfl) (by kernel_rfl) (fun _ _ _ h => h) (by assumption) (Or.inl ⟨by rfl, ?hy3⟩) (fun _ => rfl) ?rest3
               case hy3 => (intro w hSw; (try dsimp only at hSw); go_simp; try with_reducible rfl))
            | (refine ordS_take (i := 2) (oi := { dst := some 49, op := Op.move (Operand.tmp 48), type := 4, pos := _, after := #[{ on := 1, ground := Ground.data }], guard := none }) (v := undef) rfl (by kernel_rfl) (by kernel_rfl) (by kernel_rfl) (by kernel_rfl) (fun _ _ _ h => h) (by assumption) (Or.inr ⟨by rfl, rfl⟩) (fun _ => rfl) ?_)
          try simp only [Act.put, List.setIfInBounds_toArray, List.set_cons_zero, List.set_cons_succ]
          first
            | (refine' ordS_take (i := 3) (oi := { dst := some 50, op := Op.fieldAddr 26 (Operand.tmp 3) 0, type := 0, pos := _, after := #[{ on := 2, ground := Ground.guard }], guard := some (2, true) }) (v := _) rfl (by kernel_rfl) (by kernel_rfl) (by kernel_rfl) (by kernel_rfl) (fun _ _ _ h => h) (by assumption) (Or.inl ⟨by rfl, ?hy4⟩) (fun _ => rfl) ?rest4
               case hy4 => (intro w hSw; (try dsimp only at hSw); go_simp; try with_reducible rfl))
            | (refine ordS_take (i := 3) (oi := { dst := some 50, op := Op.fieldAddr 26 (Operand.tmp 3) 0, type := 0, pos := _, after := #[{ on := 2, ground := Ground.guard }], guard := some (2, true) }) (v := undef) rfl (by kernel_rfl) (by kernel_rfl) (by kernel_rfl) (by kernel_rfl) (fun _ _ _ h => h) (by assumption) (Or.inr ⟨by rfl, rfl⟩) (fun _ => rfl) ?_)
          try simp only [Act.put, List.setIfInBounds_toArray, List.set_cons_zero, List.set_cons_succ]
          first
            | (refine' ordS_take (i := 4) (oi := { dst := some 51, op := Op.load 23 (Operand.tmp 50), type := 23, pos := _, after := #[{ on := 3, ground := Ground.data }, { on := 2, ground := Ground.guard }], guard := some (2, true) }) (v := _) rfl (by kernel_rfl) (by kernel_rfl) (by kernel_rfl) (by kernel_rfl) (fun _ _ _ h => h) (by assumption) (Or.inl ⟨by rfl, ?hy5⟩) (fun _ => rfl) ?rest5
               case hy5 => (intro w hSw; (try dsimp only at hSw); go_simp; try with_reducible rfl))
            | (refine ordS_take (i := 4) (oi := { dst := some 51, op := Op.load 23 (Operand.tmp 50), type := 23, pos := _, after := #[{ on := 3, ground := Ground.data }, { on := 2, ground := Ground.guard }], guard := some (2, true) }) (v := undef) rfl (by kernel_rfl) (by kernel_rfl) (by kernel_rfl) (by kernel_rfl) (fun _ _ _ h => h) (by assumption) (Or.inr ⟨by rfl, rfl⟩) (fun _ => rfl) ?_)
          try simp only [Act.put, List.setIfInBounds_toArray, List.set_cons_zero, List.set_cons_succ]
          first
            | (refine' ordS_take (i := 5) (oi := { dst := some 52, op := Op.move (Operand.tmp 1), type := 27, pos := _, after := #[{ on := 2, ground := Ground.guard }], guard := some (2, true) }) (v := _) rfl (by kernel_rfl) (by kernel_rfl) (by kernel_rfl) (by kernel_rfl) (fun _ _ _ h => h) (by assumption) (Or.inl ⟨by rfl, ?hy6⟩) (fun _ => rfl) ?rest6
               case hy6 => (intro w hSw; (try dsimp only at hSw); go_simp; try with_reducible rfl))
            | (refine ordS_take (i := 5) (oi := { dst := some 52, op := Op.move (Operand.tmp 1), type := 27, pos := _, after := #[{ on := 2, ground := Ground.guard }], guard := some (2, true) }) (v := undef) rfl (by kernel_rfl) (by kernel_rfl) (by kernel_rfl) (by kernel_rfl) (fun _ _ _ h => h) (by assumption) (Or.inr ⟨by rfl, rfl⟩) (fun _ => rfl) ?_)
          try simp only [Act.put, List.setIfInBounds_toArray, List.set_cons_zero, List.set_cons_succ]
          first
            | (refine' ordS_take (i := 6) (oi := { dst := some 53, op := Op.move (Operand.tmp 10), type := 3, pos := _, after := #[{ on := 2, ground := Ground.guard }], guard := some (2, true) }) (v := _) rfl (by kernel_rfl) (by kernel_rfl) (by kernel_rfl) (by kernel_rfl) (fun _ _ _ h => h) (by assumption) (Or.inl ⟨by rfl, ?hy7⟩) (fun _ => rfl) ?rest7
               case hy7 => (intro w hSw; (try dsimp only at hSw); go_simp; try with_reducible rfl))
            | (refine ordS_take (i := 6) (oi := { dst := some 53, op := Op.move (Operand.tmp 10), type := 3, pos := _, after := #[{ on := 2, ground := Ground.guard }], guard := some (2, true) }) (v := undef) rfl (by kernel_rfl) (by kernel_rfl) (by kernel_rfl) (by kernel_rfl) (fun _ _ _ h => h) (by assumption) (Or.inr ⟨by rfl, rfl⟩) (fun _ => rfl) ?_)
          try simp only [Act.put, List.setIfInBounds_toArray, List.set_cons_zero, List.set_cons_succ]
          first
            | (refine' ordS_take (i := 7) (oi := { dst := some 54, op := Op.indexAddr 27 (Operand.tmp 52) (Operand.tmp 53), type := 0, pos := _, after := #[{ on := 5, ground := Ground.data }, { on := 6, ground := Ground.data }, { on := 2, ground := Ground.guard }], guard := some (2, true) }) (v := _) rfl (by kernel_rfl) (by kernel_rfl) (by kernel_rfl) (by kernel_rfl) (fun _ _ _ h => h) (by assumption) (Or.inl ⟨by rfl, ?hy8⟩) (fun _ => rfl) ?rest8
               case hy8 => (intro w hSw; (try dsimp only at hSw); go_simp; try with_reducible rfl))
            | (refine ordS_take (i := 7) (oi := { dst := some 54, op := Op.indexAddr 27 (Operand.tmp 52) (Operand.tmp 53), type := 0, pos := _, after := #[{ on := 5, ground := Ground.data }, { on := 6, ground := Ground.data }, { on := 2, ground := Ground.guard }], guard := some (2, true) }) (v := undef) rfl (by kernel_rfl) (by kernel_rfl) (by kernel_rfl) (by kernel_rfl) (fun _ _ _ h => h) (by assumption) (Or.inr ⟨by rfl, rfl⟩) (fun _ => rfl) ?_)
          try simp only [Act.put, List.setIfInBounds_toArray, List.set_cons_zero, List.set_cons_succ]
          first
            | (refine' ordS_take (i := 8) (oi := { dst := some 55, op := Op.load 37 (Operand.tmp 54), type := 37, pos := _, after := #[{ on := 7, ground := Ground.data }, { on := 2, ground := Ground.guard }], guard := some (2, true) }) (v := _) rfl (by kernel_rfl) (by kernel_rfl) (by kernel_rfl) (by kernel_rfl) (fun _ _ _ h => h) (by assumption) (Or.inl ⟨by rfl, ?hy9⟩) (fun _ => rfl) ?rest9
               case hy9 => (intro w hSw; (try dsimp only at hSw); go_simp; try with_reducible rfl))
            | (refine ordS_take (i := 8) (oi := { dst := some 55, op := Op.load 37 (Operand.tmp 54), type := 37, pos := _, after := #[{ on := 7, ground := Ground.data }, { on := 2, ground := Ground.guard }], guard := some (2, true) }) (v := undef) rfl (by kernel_rfl) (by kernel_rfl) (by kernel_rfl) (by kernel_rfl) (fun _ _ _ h => h) (by assumption) (Or.inr ⟨by rfl, rfl⟩) (fun _ => rfl) ?_)
          try simp only [Act.put, List.setIfInBounds_toArray, List.set_cons_zero, List.set_cons_succ]
          refine ordS_one (i := 9) (o := { dst := some 56, op := Op.call { callee := Callee.value (Operand.func 18), args := #[Operand.tmp 51, Operand.tmp 55], argTypes := #[23, 37] }, type := 4, pos := _, after := #[{ on := 4, ground := Ground.data }, { on := 8, ground := Ground.data }, { on := 2, ground := Ground.chain }, { on := 2, ground := Ground.guard }], guard := some (2, true) }) (by kernel_rfl) rfl (by rfl) (fun K hK => ?_)
          go_simp
          refine ⟨trivial, ?_⟩
          with_reducible refine (callsIn_wide.2 (rin_any A B x y _)).mono ?_
          rintro e w8 ⟨rfl, hb8⟩
          have hb8' := bl_tr hD hb8
          have hS8 : (fun w' : World => w'.cell? ⟨gz, oz + k * 2, none⟩ = some (.int .i64 x) ∧ w'.cell? ⟨gz, oz + k * 2 + 1, none⟩ = some (.int .i64 y) ∧ w'.cell? ⟨w.heap.size, 0, none⟩ = some (.int .i64 A) ∧ w'.cell? ⟨w.heap.size, 1, none⟩ = some (.int .i64 B)) w8 := ⟨cell_later hb8' p0, cell_later hb8' p1, cell_later hb8' f0, cell_later hb8' f1⟩
          have HB8 := Lib.hid (bl_tr hB hb8')
          refine hK _ _ hS8 ?_
          clear hK K hH hb8 hb8' hB p0 p1 f0 f1
          try simp only [Act.put, List.setIfInBounds_toArray, List.set_cons_zero, List.set_cons_succ]
          cases hi : inB A B x y
          · rw [hi] at HNX
            first
              | (refine' ordS_take (i := 10) (oi := { dst := some 57, op := Op.unOp UnOp.not 4 (Operand.tmp 56), type := 4, pos := _, after := #[{ on := 9, ground := Ground.data }, { on := 2, ground := Ground.guard }], guard := some (2, true) }) (v := _) rfl (by kernel_rfl) (by kernel_rfl) (by kernel_rfl) (by kernel_rfl) (fun _ _ _ h => h) (by assumption) (Or.inl ⟨by rfl, ?hy10⟩) (fun _ => rfl) ?rest10
                 case hy10 => (intro w hSw; (try dsimp only at hSw); go_simp; try with_reducible rfl))
              | (refine ordS_take (i := 10) (oi := { dst := some 57, op := Op.unOp UnOp.not 4 (Operand.tmp 56), type := 4, pos := _, after := #[{ on := 9, ground := Ground.data }, { on := 2, ground := Ground.guard }], guard := some (2, true) }) (v := undef) rfl (by kernel_rfl) (by kernel_rfl) (by kernel_rfl) (by kernel_rfl) (fun _ _ _ h => h) (by assumption) (Or.inr ⟨by rfl, rfl⟩) (fun _ => rfl) ?_)
            try simp only [Act.put, List.setIfInBounds_toArray, List.set_cons_zero, List.set_cons_succ]
            first
              | (refine' ordS_take (i := 11) (oi := { dst := some 58, op := Op.pick (Operand.tmp 49) (Operand.tmp 57) (Operand.const (Value.bool false)), type := 4, pos := _, after := #[{ on := 2, ground := Ground.data }, { on := 10, ground := Ground.data }], guard := none }) (v := _) rfl (by kernel_rfl) (by kernel_rfl) (by kernel_rfl) (by kernel_rfl) (fun _ _ _ h => h) (by assumption) (Or.inl ⟨by rfl, ?hy11⟩) (fun _ => rfl) ?rest11
                 case hy11 => (intro w hSw; (try dsimp only at hSw); go_simp; try with_reducible rfl))
              | (refine ordS_take (i := 11) (oi := { dst := some 58, op := Op.pick (Operand.tmp 49) (Operand.tmp 57) (Operand.const (Value.bool false)), type := 4, pos := _, after := #[{ on := 2, ground := Ground.data }, { on := 10, ground := Ground.data }], guard := none }) (v := undef) rfl (by kernel_rfl) (by kernel_rfl) (by kernel_rfl) (by kernel_rfl) (fun _ _ _ h => h) (by assumption) (Or.inr ⟨by rfl, rfl⟩) (fun _ => rfl) ?_)
            try simp only [Act.put, List.setIfInBounds_toArray, List.set_cons_zero, List.set_cons_succ]
            refine ordS_done (by kernel_rfl) ?_
            clear hS8 hi
            go_wp2
            go_roundw
            case rel => exact ⟨k + 1, by omega, by go_num, by rw [HNX.out]; rfl, HB8.out⟩
            case measure => simp [intOf]; omega
          · rw [hi] at HNX
            first
              | (refine' ordS_take (i := 10) (oi := { dst := some 57, op := Op.unOp UnOp.not 4 (Operand.tmp 56), type := 4, pos := _, after := #[{ on := 9, ground := Ground.data }, { on := 2, ground := Ground.guard }], guard := some (2, true) }) (v := _) rfl (by kernel_rfl) (by kernel_rfl) (by kernel_rfl) (by kernel_rfl) (fun _ _ _ h => h) (by assumption) (Or.inl ⟨by rfl, ?hy12⟩) (fun _ => rfl) ?rest12
                 case hy12 => (intro w hSw; (try dsimp only at hSw); go_simp; try with_reducible rfl))
              | (refine ordS_take (i := 10) (oi := { dst := some 57, op := Op.unOp UnOp.not 4 (Operand.tmp 56), type := 4, pos := _, after := #[{ on := 9, ground := Ground.data }, { on := 2, ground := Ground.guard }], guard := some (2, true) }) (v := undef) rfl (by kernel_rfl) (by kernel_rfl) (by kernel_rfl) (by kernel_rfl) (fun _ _ _ h => h) (by assumption) (Or.inr ⟨by rfl, rfl⟩) (fun _ => rfl) ?_)
            try simp only [Act.put, List.setIfInBounds_toArray, List.set_cons_zero, List.set_cons_succ]
            first
              | (refine' ordS_take (i := 11) (oi := { dst := some 58, op := Op.pick (Operand.tmp 49) (Operand.tmp 57) (Operand.const (Value.bool false)), type := 4, pos := _, after := #[{ on := 2, ground := Ground.data }, { on := 10, ground := Ground.data }], guard := none }) (v := _) rfl (by kernel_rfl) (by kernel_rfl) (by kernel_rfl) (by kernel_rfl) (fun _ _ _ h => h) (by assumption) (Or.inl ⟨by rfl, ?hy13⟩) (fun _ => rfl) ?rest13
                 case hy13 => (intro w hSw; (try dsimp only at hSw); go_simp; try with_reducible rfl))
              | (refine ordS_take (i := 11) (oi := { dst := some 58, op := Op.pick (Operand.tmp 49) (Operand.tmp 57) (Operand.const (Value.bool false)), type := 4, pos := _, after := #[{ on := 2, ground := Ground.data }, { on := 10, ground := Ground.data }], guard := none }) (v := undef) rfl (by kernel_rfl) (by kernel_rfl) (by kernel_rfl) (by kernel_rfl) (fun _ _ _ h => h) (by assumption) (Or.inr ⟨by rfl, rfl⟩) (fun _ => rfl) ?_)
            try simp only [Act.put, List.setIfInBounds_toArray, List.set_cons_zero, List.set_cons_succ]
            refine ordS_done (by kernel_rfl) ?_
            clear hS8 hi
            go_wp2
            go_roundw
            case rel => exact ⟨k + 1, by omega, by go_num, by rw [HNX.out]; rfl, HB8.out⟩
            case measure => simp [intOf]; omega
        · have hk2 := HKEEP.out hq0
          have HK2 := Lib.hid hk2
          have be : (q == 0) = false := beq_eq_false_iff_ne.2 hq0
          clear hk2 hq0
          go_upto_region 10 with fail
          refine (wpIn_wide (n := 11)).1 ?_
          refine ordS_begin (S := (fun w' : World => w'.cell? ⟨gz, oz + k * 2, none⟩ = some (.int .i64 x) ∧ w'.cell? ⟨gz, oz + k * 2 + 1, none⟩ = some (.int .i64 y) ∧ w'.cell? ⟨w.heap.size, 0, none⟩ = some (.int .i64 A) ∧ w'.cell? ⟨w.heap.size, 1, none⟩ = some (.int .i64 B))) (by kernel_rfl) ⟨cell_later hD p0, cell_later hD p1, cell_later hD f0, cell_later hD f1⟩ (fun hH => ?_)
          first
            | (refine' ordS_take (i := 0) (oi := { dst := some 47, op := Op.move (Operand.tmp 9), type := 31, pos := _, after := #[], guard := none }) (v := _) rfl (by kernel_rfl) (by kernel_rfl) (by kernel_rfl) (by kernel_rfl) (fun _ _ _ h => h) (by assumption) (Or.inl ⟨by rfl, ?hy14⟩) (fun _ => rfl) ?rest14
               case hy14 => (intro w hSw; (try dsimp only at hSw); go_simp; try with_reducible rfl))
            | (refine ordS_take (i := 0) (oi := { dst := some 47, op := Op.move (Operand.tmp 9), type := 31, pos := _, after := #[], guard := none }) (v := undef) rfl (by kernel_rfl) (by kernel_rfl) (by kernel_rfl) (by kernel_rfl) (fun _ _ _ h => h) (by assumption) (Or.inr ⟨by rfl, rfl⟩) (fun _ => rfl) ?_)
          try simp only [Act.put, List.setIfInBounds_toArray, List.set_cons_zero, List.set_cons_succ]
          first
            | (refine' ordS_take (i := 1) (oi := { dst := some 48, op := Op.binOp BinOp.eql 31 (Operand.tmp 47) (Operand.const (Value.int IntKind.i64 0)) 31, type := 4, pos := _, after := #[{ on := 0, ground := Ground.data }], guard := none }) (v := _) rfl (by kernel_rfl) (by kernel_rfl) (by kernel_rfl) (by kernel_rfl) (fun _ _ _ h => h) (by assumption) (Or.inl ⟨by rfl, ?hy15⟩) (fun _ => rfl) ?rest15
               case hy15 => (intro w hSw; (try dsimp only at hSw); go_simp; try with_reducible rfl))
            | (refine ordS_take (i := 1) (oi := { dst := some 48, op := Op.binOp BinOp.eql 31 (Operand.tmp 47) (Operand.const (Value.int IntKind.i64 0)) 31, type := 4, pos := _, after := #[{ on := 0, ground := Ground.data }], guard := none }) (v := undef) rfl (by kernel_rfl) (by kernel_rfl) (by kernel_rfl) (by kernel_rfl) (fun _ _ _ h => h) (by assumption) (Or.inr ⟨by rfl, rfl⟩) (fun _ => rfl) ?_)
          try simp only [Act.put, List.setIfInBounds_toArray, List.set_cons_zero, List.set_cons_succ]
          first
            | (refine' ordS_take (i := 2) (oi := { dst := some 49, op := Op.move (Operand.tmp 48), type := 4, pos := _, after := #[{ on := 1, ground := Ground.data }], guard := none }) (v := _) rfl (by kernel_rfl) (by kernel_rfl) (by kernel_rfl) (by kernel_rfl) (fun _ _ _ h => h) (by assumption) (Or.inl ⟨by rfl, ?hy16⟩) (fun _ => rfl) ?rest16
               case hy16 => (intro w hSw; (try dsimp only at hSw); go_simp; try with_reducible rfl))
            | (refine ordS_take (i := 2) (oi := { dst := some 49, op := Op.move (Operand.tmp 48), type := 4, pos := _, after := #[{ on := 1, ground := Ground.data }], guard := none }) (v := undef) rfl (by kernel_rfl) (by kernel_rfl) (by kernel_rfl) (by kernel_rfl) (fun _ _ _ h => h) (by assumption) (Or.inr ⟨by rfl, rfl⟩) (fun _ => rfl) ?_)
          try simp only [Act.put, List.setIfInBounds_toArray, List.set_cons_zero, List.set_cons_succ]
          first
            | (refine' ordS_take (i := 3) (oi := { dst := some 50, op := Op.fieldAddr 26 (Operand.tmp 3) 0, type := 0, pos := _, after := #[{ on := 2, ground := Ground.guard }], guard := some (2, true) }) (v := _) rfl (by kernel_rfl) (by kernel_rfl) (by kernel_rfl) (by kernel_rfl) (fun _ _ _ h => h) (by assumption) (Or.inl ⟨by rfl, ?hy17⟩) (fun _ => rfl) ?rest17
               case hy17 => (intro w hSw; (try dsimp only at hSw); go_simp; try with_reducible rfl))
            | (refine ordS_take (i := 3) (oi := { dst := some 50, op := Op.fieldAddr 26 (Operand.tmp 3) 0, type := 0, pos := _, after := #[{ on := 2, ground := Ground.guard }], guard := some (2, true) }) (v := undef) rfl (by kernel_rfl) (by kernel_rfl) (by kernel_rfl) (by kernel_rfl) (fun _ _ _ h => h) (by assumption) (Or.inr ⟨by rfl, rfl⟩) (fun _ => rfl) ?_)
          try simp only [Act.put, List.setIfInBounds_toArray, List.set_cons_zero, List.set_cons_succ]
          first
            | (refine' ordS_take (i := 4) (oi := { dst := some 51, op := Op.load 23 (Operand.tmp 50), type := 23, pos := _, after := #[{ on := 3, ground := Ground.data }, { on := 2, ground := Ground.guard }], guard := some (2, true) }) (v := _) rfl (by kernel_rfl) (by kernel_rfl) (by kernel_rfl) (by kernel_rfl) (fun _ _ _ h => h) (by assumption) (Or.inl ⟨by rfl, ?hy18⟩) (fun _ => rfl) ?rest18
               case hy18 => (intro w hSw; (try dsimp only at hSw); go_simp; try with_reducible rfl))
            | (refine ordS_take (i := 4) (oi := { dst := some 51, op := Op.load 23 (Operand.tmp 50), type := 23, pos := _, after := #[{ on := 3, ground := Ground.data }, { on := 2, ground := Ground.guard }], guard := some (2, true) }) (v := undef) rfl (by kernel_rfl) (by kernel_rfl) (by kernel_rfl) (by kernel_rfl) (fun _ _ _ h => h) (by assumption) (Or.inr ⟨by rfl, rfl⟩) (fun _ => rfl) ?_)
          try simp only [Act.put, List.setIfInBounds_toArray, List.set_cons_zero, List.set_cons_succ]
          first
            | (refine' ordS_take (i := 5) (oi := { dst := some 52, op := Op.move (Operand.tmp 1), type := 27, pos := _, after := #[{ on := 2, ground := Ground.guard }], guard := some (2, true) }) (v := _) rfl (by kernel_rfl) (by kernel_rfl) (by kernel_rfl) (by kernel_rfl) (fun _ _ _ h => h) (by assumption) (Or.inl ⟨by rfl, ?hy19⟩) (fun _ => rfl) ?rest19
               case hy19 => (intro w hSw; (try dsimp only at hSw); go_simp; try with_reducible rfl))
            | (refine ordS_take (i := 5) (oi := { dst := some 52, op := Op.move (Operand.tmp 1), type := 27, pos := _, after := #[{ on := 2, ground := Ground.guard }], guard := some (2, true) }) (v := undef) rfl (by kernel_rfl) (by kernel_rfl) (by kernel_rfl) (by kernel_rfl) (fun _ _ _ h => h) (by assumption) (Or.inr ⟨by rfl, rfl⟩) (fun _ => rfl) ?_)
          try simp only [Act.put, List.setIfInBounds_toArray, List.set_cons_zero, List.set_cons_succ]
          first
            | (refine' ordS_take (i := 6) (oi := { dst := some 53, op := Op.move (Operand.tmp 10), type := 3, pos := _, after := #[{ on := 2, ground := Ground.guard }], guard := some (2, true) }) (v := _) rfl (by kernel_rfl) (by kernel_rfl) (by kernel_rfl) (by kernel_rfl) (fun _ _ _ h => h) (by assumption) (Or.inl ⟨by rfl, ?hy20⟩) (fun _ => rfl) ?rest20
               case hy20 => (intro w hSw; (try dsimp only at hSw); go_simp; try with_reducible rfl))
            | (refine ordS_take (i := 6) (oi := { dst := some 53, op := Op.move (Operand.tmp 10), type := 3, pos := _, after := #[{ on := 2, ground := Ground.guard }], guard := some (2, true) }) (v := undef) rfl (by kernel_rfl) (by kernel_rfl) (by kernel_rfl) (by kernel_rfl) (fun _ _ _ h => h) (by assumption) (Or.inr ⟨by rfl, rfl⟩) (fun _ => rfl) ?_)
          try simp only [Act.put, List.setIfInBounds_toArray, List.set_cons_zero, List.set_cons_succ]
          first
            | (refine' ordS_take (i := 7) (oi := { dst := some 54, op := Op.indexAddr 27 (Operand.tmp 52) (Operand.tmp 53), type := 0, pos := _, after := #[{ on := 5, ground := Ground.data }, { on := 6, ground := Ground.data }, { on := 2, ground := Ground.guard }], guard := some (2, true) }) (v := _) rfl (by kernel_rfl) (by kernel_rfl) (by kernel_rfl) (by kernel_rfl) (fun _ _ _ h => h) (by assumption) (Or.inl ⟨by rfl, ?hy21⟩) (fun _ => rfl) ?rest21
               case hy21 => (intro w hSw; (try dsimp only at hSw); go_simp; try with_reducible rfl))
            | (refine ordS_take (i := 7) (oi := { dst := some 54, op := Op.indexAddr 27 (Operand.tmp 52) (Operand.tmp 53), type := 0, pos := _, after := #[{ on := 5, ground := Ground.data }, { on := 6, ground := Ground.data }, { on := 2, ground := Ground.guard }], guard := some (2, true) }) (v := undef) rfl (by kernel_rfl) (by kernel_rfl) (by kernel_rfl) (by kernel_rfl) (fun _ _ _ h => h) (by assumption) (Or.inr ⟨by rfl, rfl⟩) (fun _ => rfl) ?_)
          try simp only [Act.put, List.setIfInBounds_toArray, List.set_cons_zero, List.set_cons_succ]
          first
            | (refine' ordS_take (i := 8) (oi := { dst := some 55, op := Op.load 37 (Operand.tmp 54), type := 37, pos := _, after := #[{ on := 7, ground := Ground.data }, { on := 2, ground := Ground.guard }], guard := some (2, true) }) (v := _) rfl (by kernel_rfl) (by kernel_rfl) (by kernel_rfl) (by kernel_rfl) (fun _ _ _ h => h) (by assumption) (Or.inl ⟨by rfl, ?hy22⟩) (fun _ => rfl) ?rest22
               case hy22 => (intro w hSw; (try dsimp only at hSw); go_simp; try with_reducible rfl))
            | (refine ordS_take (i := 8) (oi := { dst := some 55, op := Op.load 37 (Operand.tmp 54), type := 37, pos := _, after := #[{ on := 7, ground := Ground.data }, { on := 2, ground := Ground.guard }], guard := some (2, true) }) (v := undef) rfl (by kernel_rfl) (by kernel_rfl) (by kernel_rfl) (by kernel_rfl) (fun _ _ _ h => h) (by assumption) (Or.inr ⟨by rfl, rfl⟩) (fun _ => rfl) ?_)
          try simp only [Act.put, List.setIfInBounds_toArray, List.set_cons_zero, List.set_cons_succ]
          refine ordS_skip (i := 9) (o := { dst := some 56, op := Op.call { callee := Callee.value (Operand.func 18), args := #[Operand.tmp 51, Operand.tmp 55], argTypes := #[23, 37] }, type := 4, pos := _, after := #[{ on := 4, ground := Ground.data }, { on := 8, ground := Ground.data }, { on := 2, ground := Ground.chain }, { on := 2, ground := Ground.guard }], guard := some (2, true) }) (by kernel_rfl) rfl (by rfl) (fun _ => trivial) hH ?_
          try simp only [Act.put, List.setIfInBounds_toArray, List.set_cons_zero, List.set_cons_succ]
          first
            | (refine' ordS_take (i := 10) (oi := { dst := some 57, op := Op.unOp UnOp.not 4 (Operand.tmp 56), type := 4, pos := _, after := #[{ on := 9, ground := Ground.data }, { on := 2, ground := Ground.guard }], guard := some (2, true) }) (v := _) rfl (by kernel_rfl) (by kernel_rfl) (by kernel_rfl) (by kernel_rfl) (fun _ _ _ h => h) (by assumption) (Or.inl ⟨by rfl, ?hy23⟩) (fun _ => rfl) ?rest23
               case hy23 => (intro w hSw; (try dsimp only at hSw); go_simp; try with_reducible rfl))
            | (refine ordS_take (i := 10) (oi := { dst := some 57, op := Op.unOp UnOp.not 4 (Operand.tmp 56), type := 4, pos := _, after := #[{ on := 9, ground := Ground.data }, { on := 2, ground := Ground.guard }], guard := some (2, true) }) (v := undef) rfl (by kernel_rfl) (by kernel_rfl) (by kernel_rfl) (by kernel_rfl) (fun _ _ _ h => h) (by assumption) (Or.inr ⟨by rfl, rfl⟩) (fun _ => rfl) ?_)
          try simp only [Act.put, List.setIfInBounds_toArray, List.set_cons_zero, List.set_cons_succ]
          first
            | (refine' ordS_take (i := 11) (oi := { dst := some 58, op := Op.pick (Operand.tmp 49) (Operand.tmp 57) (Operand.const (Value.bool false)), type := 4, pos := _, after := #[{ on := 2, ground := Ground.data }, { on := 10, ground := Ground.data }], guard := none }) (v := _) rfl (by kernel_rfl) (by kernel_rfl) (by kernel_rfl) (by kernel_rfl) (fun _ _ _ h => h) (by assumption) (Or.inl ⟨by rfl, ?hy24⟩) (fun _ => rfl) ?rest24
               case hy24 => (intro w hSw; (try dsimp only at hSw); go_simp; try with_reducible rfl))
            | (refine ordS_take (i := 11) (oi := { dst := some 58, op := Op.pick (Operand.tmp 49) (Operand.tmp 57) (Operand.const (Value.bool false)), type := 4, pos := _, after := #[{ on := 2, ground := Ground.data }, { on := 10, ground := Ground.data }], guard := none }) (v := undef) rfl (by kernel_rfl) (by kernel_rfl) (by kernel_rfl) (by kernel_rfl) (fun _ _ _ h => h) (by assumption) (Or.inr ⟨by rfl, rfl⟩) (fun _ => rfl) ?_)
          try simp only [Act.put, List.setIfInBounds_toArray, List.set_cons_zero, List.set_cons_succ]
          refine ordS_done (by kernel_rfl) ?_
          have HB8 := Lib.hid (bl_tr hB hD)
          clear hH hB hD p0 p1 f0 f1
          go_wp2
          go_roundw
          case rel => exact ⟨k + 1, by omega, by go_num, by rw [HK2.out], HB8.out⟩
          case measure => simp [intOf]; omega
      · obtain rfl : k = zs.length := by omega
        rw [want_all]
        rw [HQ1.out]
        have hA4 := bl_tr hA hB
        clear hB
        go_wp2_with fail
        refine (awake_any _).mono ?_
        rintro e w9 ⟨rfl, hb9⟩
        have hA9 := bl_tr hA4 hb9
        clear hb9 hA4
        go_wp2
        go_ret
        exact ⟨rfl, hA9⟩
  · have HW0 := Lib.hid (HW00.out.trans e2)
    clear e2 HW00
    rcases e1 with e1 | ⟨e1, e3⟩
    · go_wp2_with fail
      clear f0 f1 f2
      go_loopw [9, 10] (fun v i wr => ∃ k : Nat, k ≤ zs.length ∧ i = .int .i64 k ∧ v = .int .i64 (wantK A B (want0 A B fs.length r) zs k) ∧ Below w3.heap.size w3 wr) (fun _ i _ => zs.length - (intOf i).toNat)
      case atStart => exact ⟨0, Nat.zero_le _, rfl, by rw [HW0.out], bl0 _⟩
      case round =>
        obtain ⟨k, hk, rfl, rfl, hB⟩ := hrel
        have hk0 : (0 : Int) ≤ (k : Int) := by omega
        by_cases hlt : k < zs.length
        · have hlt2 : (k : Int) < (zs.length : Int) := by omega
          obtain ⟨gz, oz, rfl, p0, p1⟩ := hz3.cell hlt
          replace p0 := cell_later hB p0
          replace p1 := cell_later hB p1
          have f0 := cell_later hB F0.out
          have f1 := cell_later hB F1.out
          obtain ⟨x, hx⟩ : ∃ x, zs[k].1 = x := ⟨_, rfl⟩
          obtain ⟨y, hy⟩ : ∃ y, zs[k].2 = y := ⟨_, rfl⟩
          have HKEEP := Lib.hid (wantK_keep (A := A) (B := B) (e0 := want0 A B fs.length r) (zs := zs) (k := k))
          have HNEXT := Lib.hid (wantK_next (A := A) (B := B) (e0 := want0 A B fs.length r) (zs := zs) (k := k) hlt)
          rw [hx] at p0 HNEXT
          rw [hy] at p1 HNEXT
          obtain ⟨q, hq⟩ : ∃ q, wantK A B (want0 A B fs.length r) zs k = q := ⟨_, rfl⟩
          rw [hq] at HKEEP HNEXT
          rw [hq]
          clear hx hy hq
          have hD := bl_dr (bl0 wr)
          by_cases hq0 : q = 0
          · subst hq0
            have hnx := HNEXT.out rfl
            have HNX := Lib.hid hnx
            clear hnx
            go_upto_region 10 with fail
            refine (wpIn_wide (n := 11)).1 ?_
            refine ordS_begin (S := (fun w' : World => w'.cell? ⟨gz, oz + k * 2, none⟩ = some (.int .i64 x) ∧ w'.cell? ⟨gz, oz + k * 2 + 1, none⟩ = some (.int .i64 y) ∧ w'.cell? ⟨w.heap.size, 0, none⟩ = some (.int .i64 A) ∧ w'.cell? ⟨w.heap.size, 1, none⟩ = some (.int .i64 B))) (by kernel_rfl) ⟨cell_later hD p0, cell_later hD p1, cell_later hD f0, cell_later hD f1⟩ (fun hH => ?_)
            first
              | (refine' ordS_take (i := 0) (oi := { dst := some 47, op := Op.move (Operand.tmp 9), type := 31, pos := _, after := #[], guard := none }) (v := _) rfl (by kernel_rfl) (by kernel_rfl) (by kernel_rfl) (by kernel_rfl) (fun _ _ _ h => h) (by assumption) (Or.inl ⟨by rfl, ?hy25⟩) (fun _ => rfl) ?rest25
                 case hy25 => (intro w hSw; (try dsimp only at hSw); go_simp; try with_reducible rfl))
              | (refine ordS_take (i := 0) (oi := { dst := some 47, op := Op.move (Operand.tmp 9), type := 31, pos := _, after := #[], guard := none }) (v := undef) rfl (by kernel_rfl) (by kernel_rfl) (by kernel_rfl) (by kernel_rfl) (fun _ _ _ h => h) (by assumption) (Or.inr ⟨by rfl, rfl⟩) (fun _ => rfl) ?_)
            try simp only [Act.put, List.setIfInBounds_toArray, List.set_cons_zero, List.set_cons_succ]
            first
              | (refine' ordS_take (i := 1) (oi := { dst := some 48, op := Op.binOp BinOp.eql 31 (Operand.tmp 47) (Operand.const (Value.int IntKind.i64 0)) 31, type := 4, pos := _, after := #[{ on := 0, ground := Ground.data }], guard := none }) (v := _) rfl (by kernel_rfl) (by kernel_rfl) (by kernel_rfl) (by kernel_rfl) (fun _ _ _ h => h) (by assumption) (Or.inl ⟨by rfl, ?hy26⟩) (fun _ => rfl) ?rest26
                 case hy26 => (intro w hSw; (try dsimp only at hSw); go_simp; try with_reducible rfl))
              | (refine ordS_take (i := 1) (oi := { dst := some 48, op := Op.binOp BinOp.eql 31 (Operand.tmp 47) (Operand.const (Value.int IntKind.i64 0)) 31, type := 4, pos := _, after := #[{ on := 0, ground := Ground.data }], guard := none }) (v := undef) rfl (by kernel_rfl) (by kernel_rfl) (by kernel_rfl) (by kernel_rfl) (fun _ _ _ h => h) (by assumption) (Or.inr ⟨by rfl, rfl⟩) (fun _ => rfl) ?_)
            try simp only [Act.put, List.setIfInBounds_toArray, List.set_cons_zero, List.set_cons_succ]
            first
              | (refine' ordS_take (i := 2) (oi := { dst := some 49, op := Op.move (Operand.tmp 48), type := 4, pos := _, after := #[{ on := 1, ground := Ground.data }], guard := none }) (v := _) rfl (by kernel_rfl) (by kernel_rfl) (by kernel_rfl) (by kernel_rfl) (fun _ _ _ h => h) (by assumption) (Or.inl ⟨by rfl, ?hy27⟩) (fun _ => rfl) ?rest27
                 case hy27 => (intro w hSw; (try dsimp only at hSw); go_simp; try with_reducible rfl))
              | (refine ordS_take (i := 2) (oi := { dst := some 49, op := Op.move (Operand.tmp 48), type := 4, pos := _, after := #[{ on := 1, ground := Ground.data }], guard := none }) (v := undef) rfl (by kernel_rfl) (by kernel_rfl) (by kernel_rfl) (by kernel_rfl) (fun _ _ _ h => h) (by assumption) (Or.inr ⟨by rfl, rfl⟩) (fun _ => rfl) ?_)
            try simp only [Act.put, List.setIfInBounds_toArray, List.set_cons_zero, List.set_cons_succ]
            first
              | (refine' ordS_take (i := 3) (oi := { dst := some 50, op := Op.fieldAddr 26 (Operand.tmp 3) 0, type := 0, pos := _, after := #[{ on := 2, ground := Ground.guard }], guard := some (2, true) }) (v := _) rfl (by kernel_rfl) (by kernel_rfl) (by kernel_rfl) (by kernel_rfl) (fun _ _ _ h => h) (by assumption) (Or.inl ⟨by rfl, ?hy28⟩) (fun _ => rfl) ?rest28
                 case hy28 => (intro w hSw; (try dsimp only at hSw); go_simp; try with_reducible rfl))
              | (refine ordS_take (i := 3) (oi := { dst := some 50, op := Op.fieldAddr 26 (Operand.tmp 3) 0, type := 0, pos := _, after := #[{ on := 2, ground := Ground.guard }], guard := some (2, true) }) (v := undef) rfl (by kernel_rfl) (by kernel_rfl) (by kernel_rfl) (by kernel_rfl) (fun _ _ _ h => h) (by assumption) (Or.inr ⟨by rfl, rfl⟩) (fun _ => rfl) ?_)
            try simp only [Act.put, List.setIfInBounds_toArray, List.set_cons_zero, List.set_cons_succ]
            first
              | (refine' ordS_take (i := 4) (oi := { dst := some 51, op := Op.load 23 (Operand.tmp 50), type := 23, pos := _, after := #[{ on := 3, ground := Ground.data }, { on := 2, ground := Ground.guard }], guard := some (2, true) }) (v := _) rfl (by kernel_rfl) (by kernel_rfl) (by kernel_rfl) (by kernel_rfl) (fun _ _ _ h => h) (by assumption) (Or.inl ⟨by rfl, ?hy29⟩) (fun _ => rfl) ?rest29
                 case hy29 => (intro w hSw; (try dsimp only at hSw); go_simp; try with_reducible rfl))
              | (refine ordS_take (i := 4) (oi := { dst := some 51, op := Op.load 23 (Operand.tmp 50), type := 23, pos := _, after := #[{ on := 3, ground := Ground.data }, { on := 2, ground := Ground.guard }], guard := some (2, true) }) (v := undef) rfl (by kernel_rfl) (by kernel_rfl) (by kernel_rfl) (by kernel_rfl) (fun _ _ _ h => h) (by assumption) (Or.inr ⟨by rfl, rfl⟩) (fun _ => rfl) ?_)
            try simp only [Act.put, List.setIfInBounds_toArray, List.set_cons_zero, List.set_cons_succ]
            first
              | (refine' ordS_take (i := 5) (oi := { dst := some 52, op := Op.move (Operand.tmp 1), type := 27, pos := _, after := #[{ on := 2, ground := Ground.guard }], guard := some (2, true) }) (v := _) rfl (by kernel_rfl) (by kernel_rfl) (by kernel_rfl) (by kernel_rfl) (fun _ _ _ h => h) (by assumption) (Or.inl ⟨by rfl, ?hy30⟩) (fun _ => rfl) ?rest30
                 case hy30 => (intro w hSw; (try dsimp only at hSw); go_simp; try with_reducible rfl))
              | (refine ordS_take (i := 5) (oi := { dst := some 52, op := Op.move (Operand.tmp 1), type := 27, pos := _, after := #[{ on := 2, ground := Ground.guard }], guard := some (2, true) }) (v := undef) rfl (by kernel_rfl) (by kernel_rfl) (by kernel_rfl) (by kernel_rfl) (fun _ _ _ h => h) (by assumption) (Or.inr ⟨by rfl, rfl⟩) (fun _ => rfl) ?_)
            try simp only [Act.put, List.setIfInBounds_toArray, List.set_cons_zero, List.set_cons_succ]
            first
              | (refine' ordS_take (i := 6) (oi := { dst := some 53, op := Op.move (Operand.tmp 10), type := 3, pos := _, after := #[{ on := 2, ground := Ground.guard }], guard := some (2, true) }) (v := _) rfl (by kernel_rfl) (by kernel_rfl) (by kernel_rfl) (by kernel_rfl) (fun _ _ _ h => h) (by assumption) (Or.inl ⟨by rfl, ?hy31⟩) (fun _ => rfl) ?rest31
                 case hy31 => (intro w hSw; (try dsimp only at hSw); go_simp; try with_reducible rfl))
              | (refine ordS_take (i := 6) (oi := { dst := some 53, op := Op.move (Operand.tmp 10), type := 3, pos := _, after := #[{ on := 2, ground := Ground.guard }], guard := some (2, true) }) (v := undef) rfl (by kernel_rfl) (by kernel_rfl) (by kernel_rfl) (by kernel_rfl) (fun _ _ _ h => h) (by assumption) (Or.inr ⟨by rfl, rfl⟩) (fun _ => rfl) ?_)
            try simp only [Act.put, List.setIfInBounds_toArray, List.set_cons_zero, List.set_cons_succ]
            first
              | (refine' ordS_take (i := 7) (oi := { dst := some 54, op := Op.indexAddr 27 (Operand.tmp 52) (Operand.tmp 53), type := 0, pos := _, after := #[{ on := 5, ground := Ground.data }, { on := 6, ground := Ground.data }, { on := 2, ground := Ground.guard }], guard := some (2, true) }) (v := _) rfl (by kernel_rfl) (by kernel_rfl) (by kernel_rfl) (by kernel_rfl) (fun _ _ _ h => h) (by assumption) (Or.inl ⟨by rfl, ?hy32⟩) (fun _ => rfl) ?rest32
                 case hy32 => (intro w hSw; (try dsimp only at hSw); go_simp; try with_reducible rfl))
              | (refine ordS_take (i := 7) (oi := { dst := some 54, op := Op.indexAddr 27 (Operand.tmp 52) (Operand.tmp 53), type := 0, pos := _, after := #[{ on := 5, ground := Ground.data }, { on := 6, ground := Ground.data }, { on := 2, ground := Ground.guard }], guard := some (2, true) }) (v := undef) rfl (by kernel_rfl) (by kernel_rfl) (by kernel_rfl) (by kernel_rfl) (fun _ _ _ h => h) (by assumption) (Or.inr ⟨by rfl, rfl⟩) (fun _ => rfl) ?_)
            try simp only [Act.put, List.setIfInBounds_toArray, List.set_cons_zero, List.set_cons_succ]
            first
              | (refine' ordS_take (i := 8) (oi := { dst := some 55, op := Op.load 37 (Operand.tmp 54), type := 37, pos := _, after := #[{ on := 7, ground := Ground.data }, { on := 2, ground := Ground.guard }], guard := some (2, true) }) (v := _) rfl (by kernel_rfl) (by kernel_rfl) (by kernel_rfl) (by kernel_rfl) (fun _ _ _ h => h) (by assumption) (Or.inl ⟨by rfl, ?hy33⟩) (fun _ => rfl) ?rest33
                 case hy33 => (intro w hSw; (try dsimp only at hSw); go_simp; try with_reducible rfl))
              | (refine ordS_take (i := 8) (oi := { dst := some 55, op := Op.load 37 (Operand.tmp 54), type := 37, pos := _, after := #[{ on := 7, ground := Ground.data }, { on := 2, ground := Ground.guard }], guard := some (2, true) }) (v := undef) rfl (by kernel_rfl) (by kernel_rfl) (by kernel_rfl) (by kernel_rfl) (fun _ _ _ h => h) (by assumption) (Or.inr ⟨by rfl, rfl⟩) (fun _ => rfl) ?_)
            try simp only [Act.put, List.setIfInBounds_toArray, List.set_cons_zero, List.set_cons_succ]
            refine ordS_one (i := 9) (o := { dst := some 56, op := Op.call { callee := Callee.value (Operand.func 18), args := #[Operand.tmp 51, Operand.tmp 55], argTypes := #[23, 37] }, type := 4, pos := _, after := #[{ on := 4, ground := Ground.data }, { on := 8, ground := Ground.data }, { on := 2, ground := Ground.chain }, { on := 2, ground := Ground.guard }], guard := some (2, true) }) (by kernel_rfl) rfl (by rfl) (fun K hK => ?_)
            go_simp
            refine ⟨trivial, ?_⟩
            with_reducible refine (callsIn_wide.2 (rin_any A B x y _)).mono ?_
            rintro e w8 ⟨rfl, hb8⟩
            have hb8' := bl_tr hD hb8
            have hS8 : (fun w' : World => w'.cell? ⟨gz, oz + k * 2, none⟩ = some (.int .i64 x) ∧ w'.cell? ⟨gz, oz + k * 2 + 1, none⟩ = some (.int .i64 y) ∧ w'.cell? ⟨w.heap.size, 0, none⟩ = some (.int .i64 A) ∧ w'.cell? ⟨w.heap.size, 1, none⟩ = some (.int .i64 B)) w8 := ⟨cell_later hb8' p0, cell_later hb8' p1, cell_later hb8' f0, cell_later hb8' f1⟩
            have HB8 := Lib.hid (bl_tr hB hb8')
            refine hK _ _ hS8 ?_
            clear hK K hH hb8 hb8' hB p0 p1 f0 f1
            try simp only [Act.put, List.setIfInBounds_toArray, List.set_cons_zero, List.set_cons_succ]
            cases hi : inB A B x y
            · rw [hi] at HNX
              first
                | (refine' ordS_take (i := 10) (oi := { dst := some 57, op := Op.unOp UnOp.not 4 (Operand.tmp 56), type := 4, pos := _, after := #[{ on := 9, ground := Ground.data }, { on := 2, ground := Ground.guard }], guard := some (2, true) }) (v := _) rfl (by kernel_rfl) (by kernel_rfl) (by kernel_rfl) (by kernel_rfl) (fun _ _ _ h => h) (by assumption) (Or.inl ⟨by rfl, ?hy34⟩) (fun _ => rfl) ?rest34
                   case hy34 => (intro w hSw; (try dsimp only at hSw); go_simp; try with_reducible rfl))
                | (refine ordS_take (i := 10) (oi := { dst := some 57, op := Op.unOp UnOp.not 4 (Operand.tmp 56), type := 4, pos := _, after := #[{ on := 9, ground := Ground.data }, { on := 2, ground := Ground.guard }], guard := some (2, true) }) (v := undef) rfl (by kernel_rfl) (by kernel_rfl) (by kernel_rfl) (by kernel_rfl) (fun _ _ _ h => h) (by assumption) (Or.inr ⟨by rfl, rfl⟩) (fun _ => rfl) ?_)
              try simp only [Act.put, List.setIfInBounds_toArray, List.set_cons_zero, List.set_cons_succ]
              first
                | (refine' ordS_take (i := 11) (oi := { dst := some 58, op := Op.pick (Operand.tmp 49) (Operand.tmp 57) (Operand.const (Value.bool false)), type := 4, pos := _, after := #[{ on := 2, ground := Ground.data }, { on := 10, ground := Ground.data }], guard := none }) (v := _) rfl (by kernel_rfl) (by kernel_rfl) (by kernel_rfl) (by kernel_rfl) (fun _ _ _ h => h) (by assumption) (Or.inl ⟨by rfl, ?hy35⟩) (fun _ => rfl) ?rest35
                   case hy35 => (intro w hSw; (try dsimp only at hSw); go_simp; try with_reducible rfl))
                | (refine ordS_take (i := 11) (oi := { dst := some 58, op := Op.pick (Operand.tmp 49) (Operand.tmp 57) (Operand.const (Value.bool false)), type := 4, pos := _, after := #[{ on := 2, ground := Ground.data }, { on := 10, ground := Ground.data }], guard := none }) (v := undef) rfl (by kernel_rfl) (by kernel_rfl) (by kernel_rfl) (by kernel_rfl) (fun _ _ _ h => h) (by assumption) (Or.inr ⟨by rfl, rfl⟩) (fun _ => rfl) ?_)
              try simp only [Act.put, List.setIfInBounds_toArray, List.set_cons_zero, List.set_cons_succ]
              refine ordS_done (by kernel_rfl) ?_
              clear hS8 hi
              go_wp2
              go_roundw
              case rel => exact ⟨k + 1, by omega, by go_num, by rw [HNX.out]; rfl, HB8.out⟩
              case measure => simp [intOf]; omega
            · rw [hi] at HNX
              first
                | (refine' ordS_take (i := 10) (oi := { dst := some 57, op := Op.unOp UnOp.not 4 (Operand.tmp 56), type := 4, pos := _, after := #[{ on := 9, ground := Ground.data }, { on := 2, ground := Ground.guard }], guard := some (2, true) }) (v := _) rfl (by kernel_rfl) (by kernel_rfl) (by kernel_rfl) (by kernel_rfl) (fun _ _ _ h => h) (by assumption) (Or.inl ⟨by rfl, ?hy36⟩) (fun _ => rfl) ?rest36
                   case hy36 => (intro w hSw; (try dsimp only at hSw); go_simp; try with_reducible rfl))
                | (refine ordS_take (i := 10) (oi := { dst := some 57, op := Op.unOp UnOp.not 4 (Operand.tmp 56), type := 4, pos := _, after := #[{ on := 9, ground := Ground.data }, { on := 2, ground := Ground.guard }], guard := some (2, true) }) (v := undef) rfl (by kernel_rfl) (by kernel_rfl) (by kernel_rfl) (by kernel_rfl) (fun _ _ _ h => h) (by assumption) (Or.inr ⟨by rfl, rfl⟩) (fun _ => rfl) ?_)
              try simp only [Act.put, List.setIfInBounds_toArray, List.set_cons_zero, List.set_cons_succ]
              first
                | (refine' ordS_take (i := 11) (oi := { dst := some 58, op := Op.pick (Operand.tmp 49) (Operand.tmp 57) (Operand.const (Value.bool false)), type := 4, pos := _, after := #[{ on := 2, ground := Ground.data }, { on := 10, ground := Ground.data }], guard := none }) (v := _) rfl (by kernel_rfl) (by kernel_rfl) (by kernel_rfl) (by kernel_rfl) (fun _ _ _ h => h) (by assumption) (Or.inl ⟨by rfl, ?hy37⟩) (fun _ => rfl) ?rest37
                   case hy37 => (intro w hSw; (try dsimp only at hSw); go_simp; try with_reducible rfl))
                | (refine ordS_take (i := 11) (oi := { dst := some 58, op := Op.pick (Operand.tmp 49) (Operand.tmp 57) (Operand.const (Value.bool false)), type := 4, pos := _, after := #[{ on := 2, ground := Ground.data }, { on := 10, ground := Ground.data }], guard := none }) (v := undef) rfl (by kernel_rfl) (by kernel_rfl) (by kernel_rfl) (by kernel_rfl) (fun _ _ _ h => h) (by assumption) (Or.inr ⟨by rfl, rfl⟩) (fun _ => rfl) ?_)
              try simp only [Act.put, List.setIfInBounds_toArray, List.set_cons_zero, List.set_cons_succ]
              refine ordS_done (by kernel_rfl) ?_
              clear hS8 hi
              go_wp2
              go_roundw
              case rel => exact ⟨k + 1, by omega, by go_num, by rw [HNX.out]; rfl, HB8.out⟩
              case measure => simp [intOf]; omega
          · have hk2 := HKEEP.out hq0
            have HK2 := Lib.hid hk2
            have be : (q == 0) = false := beq_eq_false_iff_ne.2 hq0
            clear hk2 hq0
            go_upto_region 10 with fail
            refine (wpIn_wide (n := 11)).1 ?_
            refine ordS_begin (S := (fun w' : World => w'.cell? ⟨gz, oz + k * 2, none⟩ = some (.int .i64 x) ∧ w'.cell? ⟨gz, oz + k * 2 + 1, none⟩ = some (.int .i64 y) ∧ w'.cell? ⟨w.heap.size, 0, none⟩ = some (.int .i64 A) ∧ w'.cell? ⟨w.heap.size, 1, none⟩ = some (.int .i64 B))) (by kernel_rfl) ⟨cell_later hD p0, cell_later hD p1, cell_later hD f0, cell_later hD f1⟩ (fun hH => ?_)
            first
              | (refine' ordS_take (i := 0) (oi := { dst := some 47, op := Op.move (Operand.tmp 9), type := 31, pos := _, after := #[], guard := none }) (v := _) rfl (by kernel_rfl) (by kernel_rfl) (by kernel_rfl) (by kernel_rfl) (fun _ _ _ h => h) (by assumption) (Or.inl ⟨by rfl, ?hy38⟩) (fun _ => rfl) ?rest38
                 case hy38 => (intro w hSw; (try dsimp only at hSw); go_simp; try with_reducible rfl))
              | (refine ordS_take (i := 0) (oi := { dst := some 47, op := Op.move (Operand.tmp 9), type := 31, pos := _, after := #[], guard := none }) (v := undef) rfl (by kernel_rfl) (by kernel_rfl) (by kernel_rfl) (by kernel_rfl) (fun _ _ _ h => h) (by assumption) (Or.inr ⟨by rfl, rfl⟩) (fun _ => rfl) ?_)
            try simp only [Act.put, List.setIfInBounds_toArray, List.set_cons_zero, List.set_cons_succ]
            first
              | (refine' ordS_take (i := 1) (oi := { dst := some 48, op := Op.binOp BinOp.eql 31 (Operand.tmp 47) (Operand.const (Value.int IntKind.i64 0)) 31, type := 4, pos := _, after := #[{ on := 0, ground := Ground.data }], guard := none }) (v := _) rfl (by kernel_rfl) (by kernel_rfl) (by kernel_rfl) (by kernel_rfl) (fun _ _ _ h => h) (by assumption) (Or.inl ⟨by rfl, ?hy39⟩) (fun _ => rfl) ?rest39
                 case hy39 => (intro w hSw; (try dsimp only at hSw); go_simp; try with_reducible rfl))
              | (refine ordS_take (i := 1) (oi := { dst := some 48, op := Op.binOp BinOp.eql 31 (Operand.tmp 47) (Operand.const (Value.int IntKind.i64 0)) 31, type := 4, pos := _, after := #[{ on := 0, ground := Ground.data }], guard := none }) (v := undef) rfl (by kernel_rfl) (by kernel_rfl) (by kernel_rfl) (by kernel_rfl) (fun _ _ _ h => h) (by assumption) (Or.inr ⟨by rfl, rfl⟩) (fun _ => rfl) ?_)
            try simp only [Act.put, List.setIfInBounds_toArray, List.set_cons_zero, List.set_cons_succ]
            first
              | (refine' ordS_take (i := 2) (oi := { dst := some 49, op := Op.move (Operand.tmp 48), type := 4, pos := _, after := #[{ on := 1, ground := Ground.data }], guard := none }) (v := _) rfl (by kernel_rfl) (by kernel_rfl) (by kernel_rfl) (by kernel_rfl) (fun _ _ _ h => h) (by assumption) (Or.inl ⟨by rfl, ?hy40⟩) (fun _ => rfl) ?rest40
                 case hy40 => (intro w hSw; (try dsimp only at hSw); go_simp; try with_reducible rfl))
              | (refine ordS_take (i := 2) (oi := { dst := some 49, op := Op.move (Operand.tmp 48), type := 4, pos := _, after := #[{ on := 1, ground := Ground.data }], guard := none }) (v := undef) rfl (by kernel_rfl) (by kernel_rfl) (by kernel_rfl) (by kernel_rfl) (fun _ _ _ h => h) (by assumption) (Or.inr ⟨by rfl, rfl⟩) (fun _ => rfl) ?_)
            try simp only [Act.put, List.setIfInBounds_toArray, List.set_cons_zero, List.set_cons_succ]
            first
              | (refine' ordS_take (i := 3) (oi := { dst := some 50, op := Op.fieldAddr 26 (Operand.tmp 3) 0, type := 0, pos := _, after := #[{ on := 2, ground := Ground.guard }], guard := some (2, true) }) (v := _) rfl (by kernel_rfl) (by kernel_rfl) (by kernel_rfl) (by kernel_rfl) (fun _ _ _ h => h) (by assumption) (Or.inl ⟨by rfl, ?hy41⟩) (fun _ => rfl) ?rest41
                 case hy41 => (intro w hSw; (try dsimp only at hSw); go_simp; try with_reducible rfl))
              | (refine ordS_take (i := 3) (oi := { dst := some 50, op := Op.fieldAddr 26 (Operand.tmp 3) 0, type := 0, pos := _, after := #[{ on := 2, ground := Ground.guard }], guard := some (2, true) }) (v := undef) rfl (by kernel_rfl) (by kernel_rfl) (by kernel_rfl) (by kernel_rfl) (fun _ _ _ h => h) (by assumption) (Or.inr ⟨by rfl, rfl⟩) (fun _ => rfl) ?_)
            try simp only [Act.put, List.setIfInBounds_toArray, List.set_cons_zero, List.set_cons_succ]
            first
              | (refine' ordS_take (i := 4) (oi := { dst := some 51, op := Op.load 23 (Operand.tmp 50), type := 23, pos := _, after := #[{ on := 3, ground := Ground.data }, { on := 2, ground := Ground.guard }], guard := some (2, true) }) (v := _) rfl (by kernel_rfl) (by kernel_rfl) (by kernel_rfl) (by kernel_rfl) (fun _ _ _ h => h) (by assumption) (Or.inl ⟨by rfl, ?hy42⟩) (fun _ => rfl) ?rest42
                 case hy42 => (intro w hSw; (try dsimp only at hSw); go_simp; try with_reducible rfl))
              | (refine ordS_take (i := 4) (oi := { dst := some 51, op := Op.load 23 (Operand.tmp 50), type := 23, pos := _, after := #[{ on := 3, ground := Ground.data }, { on := 2, ground := Ground.guard }], guard := some (2, true) }) (v := undef) rfl (by kernel_rfl) (by kernel_rfl) (by kernel_rfl) (by kernel_rfl) (fun _ _ _ h => h) (by assumption) (Or.inr ⟨by rfl, rfl⟩) (fun _ => rfl) ?_)
            try simp only [Act.put, List.setIfInBounds_toArray, List.set_cons_zero, List.set_cons_succ]
            first
              | (refine' ordS_take (i := 5) (oi := { dst := some 52, op := Op.move (Operand.tmp 1), type := 27, pos := _, after := #[{ on := 2, ground := Ground.guard }], guard := some (2, true) }) (v := _) rfl (by kernel_rfl) (by kernel_rfl) (by kernel_rfl) (by kernel_rfl) (fun _ _ _ h => h) (by assumption) (Or.inl ⟨by rfl, ?hy43⟩) (fun _ => rfl) ?rest43
                 case hy43 => (intro w hSw; (try dsimp only at hSw); go_simp; try with_reducible rfl))
              | (refine ordS_take (i := 5) (oi := { dst := some 52, op := Op.move (Operand.tmp 1), type := 27, pos := _, after := #[{ on := 2, ground := Ground.guard }], guard := some (2, true) }) (v := undef) rfl (by kernel_rfl) (by kernel_rfl) (by kernel_rfl) (by kernel_rfl) (fun _ _ _ h => h) (by assumption) (Or.inr ⟨by rfl, rfl⟩) (fun _ => rfl) ?_)
            try simp only [Act.put, List.setIfInBounds_toArray, List.set_cons_zero, List.set_cons_succ]
            first
              | (refine' ordS_take (i := 6) (oi := { dst := some 53, op := Op.move (Operand.tmp 10), type := 3, pos := _, after := #[{ on := 2, ground := Ground.guard }], guard := some (2, true) }) (v := _) rfl (by kernel_rfl) (by kernel_rfl) (by kernel_rfl) (by kernel_rfl) (fun _ _ _ h => h) (by assumption) (Or.inl ⟨by rfl, ?hy44⟩) (fun _ => rfl) ?rest44
                 case hy44 => (intro w hSw; (try dsimp only at hSw); go_simp; try with_reducible rfl))
              | (refine ordS_take (i := 6) (oi := { dst := some 53, op := Op.move (Operand.tmp 10), type := 3, pos := _, after := #[{ on := 2, ground := Ground.guard }], guard := some (2, true) }) (v := undef) rfl (by kernel_rfl) (by kernel_rfl) (by kernel_rfl) (by kernel_rfl) (fun _ _ _ h => h) (by assumption) (Or.inr ⟨by rfl, rfl⟩) (fun _ => rfl) ?_)
            try simp only [Act.put, List.setIfInBounds_toArray, List.set_cons_zero, List.set_cons_succ]
            first
              | (refine' ordS_take (i := 7) (oi := { dst := some 54, op := Op.indexAddr 27 (Operand.tmp 52) (Operand.tmp 53), type := 0, pos := _, after := #[{ on := 5, ground := Ground.data }, { on := 6, ground := Ground.data }, { on := 2, ground := Ground.guard }], guard := some (2, true) }) (v := _) rfl (by kernel_rfl) (by kernel_rfl) (by kernel_rfl) (by kernel_rfl) (fun _ _ _ h => h) (by assumption) (Or.inl ⟨by rfl, ?hy45⟩) (fun _ => rfl) ?rest45
                 case hy45 => (intro w hSw; (try dsimp only at hSw); go_simp; try with_reducible rfl))
              | (refine ordS_take (i := 7) (oi := { dst := some 54, op := Op.indexAddr 27 (Operand.tmp 52) (Operand.tmp 53), type := 0, pos := _, after := #[{ on := 5, ground := Ground.data }, { on := 6, ground := Ground.data }, { on := 2, ground := Ground.guard }], guard := some (2, true) }) (v := undef) rfl (by kernel_rfl) (by kernel_rfl) (by kernel_rfl) (by kernel_rfl) (fun _ _ _ h => h) (by assumption) (Or.inr ⟨by rfl, rfl⟩) (fun _ => rfl) ?_)
            try simp only [Act.put, List.setIfInBounds_toArray, List.set_cons_zero, List.set_cons_succ]
            first
              | (refine' ordS_take (i := 8) (oi := { dst := some 55, op := Op.load 37 (Operand.tmp 54), type := 37, pos := _, after := #[{ on := 7, ground := Ground.data }, { on := 2, ground := Ground.guard }], guard := some (2, true) }) (v := _) rfl (by kernel_rfl) (by kernel_rfl) (by kernel_rfl) (by kernel_rfl) (fun _ _ _ h => h) (by assumption) (Or.inl ⟨by rfl, ?hy46⟩) (fun _ => rfl) ?rest46
                 case hy46 => (intro w hSw; (try dsimp only at hSw); go_simp; try with_reducible rfl))
              | (refine ordS_take (i := 8) (oi := { dst := some 55, op := Op.load 37 (Operand.tmp 54), type := 37, pos := _, after := #[{ on := 7, ground := Ground.data }, { on := 2, ground := Ground.guard }], guard := some (2, true) }) (v := undef) rfl (by kernel_rfl) (by kernel_rfl) (by kernel_rfl) (by kernel_rfl) (fun _ _ _ h => h) (by assumption) (Or.inr ⟨by rfl, rfl⟩) (fun _ => rfl) ?_)
            try simp only [Act.put, List.setIfInBounds_toArray, List.set_cons_zero, List.set_cons_succ]
            refine ordS_skip (i := 9) (o := { dst := some 56, op := Op.call { callee := Callee.value (Operand.func 18), args := #[Operand.tmp 51, Operand.tmp 55], argTypes := #[23, 37] }, type := 4, pos := _, after := #[{ on := 4, ground := Ground.data }, { on := 8, ground := Ground.data }, { on := 2, ground := Ground.chain }, { on := 2, ground := Ground.guard }], guard := some (2, true) }) (by kernel_rfl) rfl (by rfl) (fun _ => trivial) hH ?_
            try simp only [Act.put, List.setIfInBounds_toArray, List.set_cons_zero, List.set_cons_succ]
            first
              | (refine' ordS_take (i := 10) (oi := { dst := some 57, op := Op.unOp UnOp.not 4 (Operand.tmp 56), type := 4, pos := _, after := #[{ on := 9, ground := Ground.data }, { on := 2, ground := Ground.guard }], guard := some (2, true) }) (v := _) rfl (by kernel_rfl) (by kernel_rfl) (by kernel_rfl) (by kernel_rfl) (fun _ _ _ h => h) (by assumption) (Or.inl ⟨by rfl, ?hy47⟩) (fun _ => rfl) ?rest47
                 case hy47 => (intro w hSw; (try dsimp only at hSw); go_simp; try with_reducible rfl))
              | (refine ordS_take (i := 10) (oi := { dst := some 57, op := Op.unOp UnOp.not 4 (Operand.tmp 56), type := 4, pos := _, after := #[{ on := 9, ground := Ground.data }, { on := 2, ground := Ground.guard }], guard := some (2, true) }) (v := undef) rfl (by kernel_rfl) (by kernel_rfl) (by kernel_rfl) (by kernel_rfl) (fun _ _ _ h => h) (by assumption) (Or.inr ⟨by rfl, rfl⟩) (fun _ => rfl) ?_)
            try simp only [Act.put, List.setIfInBounds_toArray, List.set_cons_zero, List.set_cons_succ]
            first
              | (refine' ordS_take (i := 11) (oi := { dst := some 58, op := Op.pick (Operand.tmp 49) (Operand.tmp 57) (Operand.const (Value.bool false)), type := 4, pos := _, after := #[{ on := 2, ground := Ground.data }, { on := 10, ground := Ground.data }], guard := none }) (v := _) rfl (by kernel_rfl) (by kernel_rfl) (by kernel_rfl) (by kernel_rfl) (fun _ _ _ h => h) (by assumption) (Or.inl ⟨by rfl, ?hy48⟩) (fun _ => rfl) ?rest48
                 case hy48 => (intro w hSw; (try dsimp only at hSw); go_simp; try with_reducible rfl))
              | (refine ordS_take (i := 11) (oi := { dst := some 58, op := Op.pick (Operand.tmp 49) (Operand.tmp 57) (Operand.const (Value.bool false)), type := 4, pos := _, after := #[{ on := 2, ground := Ground.data }, { on := 10, ground := Ground.data }], guard := none }) (v := undef) rfl (by kernel_rfl) (by kernel_rfl) (by kernel_rfl) (by kernel_rfl) (fun _ _ _ h => h) (by assumption) (Or.inr ⟨by rfl, rfl⟩) (fun _ => rfl) ?_)
            try simp only [Act.put, List.setIfInBounds_toArray, List.set_cons_zero, List.set_cons_succ]
            refine ordS_done (by kernel_rfl) ?_
            have HB8 := Lib.hid (bl_tr hB hD)
            clear hH hB hD p0 p1 f0 f1
            go_wp2
            go_roundw
            case rel => exact ⟨k + 1, by omega, by go_num, by rw [HK2.out], HB8.out⟩
            case measure => simp [intOf]; omega
        · obtain rfl : k = zs.length := by omega
          rw [want_all]
          rw [HQ1.out]
          have hA4 := bl_tr hA hB
          clear hB
          go_wp2_with fail
          refine (awake_any _).mono ?_
          rintro e w9 ⟨rfl, hb9⟩
          have hA9 := bl_tr hA4 hb9
          clear hb9 hA4
          go_wp2
          go_ret
          exact ⟨rfl, hA9⟩
    · go_wp2_with fail
      clear f0 f1 f2
      go_loopw [9, 10] (fun v i wr => ∃ k : Nat, k ≤ zs.length ∧ i = .int .i64 k ∧ v = .int .i64 (wantK A B (want0 A B fs.length r) zs k) ∧ Below w3.heap.size w3 wr) (fun _ i _ => zs.length - (intOf i).toNat)
      case atStart => exact ⟨0, Nat.zero_le _, rfl, by rw [HW0.out], bl0 _⟩
      case round =>
        obtain ⟨k, hk, rfl, rfl, hB⟩ := hrel
        have hk0 : (0 : Int) ≤ (k : Int) := by omega
        by_cases hlt : k < zs.length
        · have hlt2 : (k : Int) < (zs.length : Int) := by omega
          obtain ⟨gz, oz, rfl, p0, p1⟩ := hz3.cell hlt
          replace p0 := cell_later hB p0
          replace p1 := cell_later hB p1
          have f0 := cell_later hB F0.out
          have f1 := cell_later hB F1.out
          obtain ⟨x, hx⟩ : ∃ x, zs[k].1 = x := ⟨_, rfl⟩
          obtain ⟨y, hy⟩ : ∃ y, zs[k].2 = y := ⟨_, rfl⟩
          have HKEEP := Lib.hid (wantK_keep (A := A) (B := B) (e0 := want0 A B fs.length r) (zs := zs) (k := k))
          have HNEXT := Lib.hid (wantK_next (A := A) (B := B) (e0 := want0 A B fs.length r) (zs := zs) (k := k) hlt)
          rw [hx] at p0 HNEXT
          rw [hy] at p1 HNEXT
          obtain ⟨q, hq⟩ : ∃ q, wantK A B (want0 A B fs.length r) zs k = q := ⟨_, rfl⟩
          rw [hq] at HKEEP HNEXT
          rw [hq]
          clear hx hy hq
          have hD := bl_dr (bl0 wr)
          by_cases hq0 : q = 0
          · subst hq0
            have hnx := HNEXT.out rfl
            have HNX := Lib.hid hnx
            clear hnx
            go_upto_region 10 with fail
            refine (wpIn_wide (n := 11)).1 ?_
            refine ordS_begin (S := (fun w' : World => w'.cell? ⟨gz, oz + k * 2, none⟩ = some (.int .i64 x) ∧ w'.cell? ⟨gz, oz + k * 2 + 1, none⟩ = some (.int .i64 y) ∧ w'.cell? ⟨w.heap.size, 0, none⟩ = some (.int .i64 A) ∧ w'.cell? ⟨w.heap.size, 1, none⟩ = some (.int .i64 B))) (by kernel_rfl) ⟨cell_later hD p0, cell_later hD p1, cell_later hD f0, cell_later hD f1⟩ (fun hH => ?_)
            first
              | (refine' ordS_take (i := 0) (oi := { dst := some 47, op := Op.move (Operand.tmp 9), type := 31, pos := _, after := #[], guard := none }) (v := _) rfl (by kernel_rfl) (by kernel_rfl) (by kernel_rfl) (by kernel_rfl) (fun _ _ _ h => h) (by assumption) (Or.inl ⟨by rfl, ?hy49⟩) (fun _ => rfl) ?rest49
                 case hy49 => (intro w hSw; (try dsimp only at hSw); go_simp; try with_reducible rfl))
              | (refine ordS_take (i := 0) (oi := { dst := some 47, op := Op.move (Operand.tmp 9), type := 31, pos := _, after := #[], guard := none }) (v := undef) rfl (by kernel_rfl) (by kernel_rfl) (by kernel_rfl) (by kernel_rfl) (fun _ _ _ h => h) (by assumption) (Or.inr ⟨by rfl, rfl⟩) (fun _ => rfl) ?_)
            try simp only [Act.put, List.setIfInBounds_toArray, List.set_cons_zero, List.set_cons_succ]
            first
              | (refine' ordS_take (i := 1) (oi := { dst := some 48, op := Op.binOp BinOp.eql 31 (Operand.tmp 47) (Operand.const (Value.int IntKind.i64 0)) 31, type := 4, pos := _, after := #[{ on := 0, ground := Ground.data }], guard := none }) (v := _) rfl (by kernel_rfl) (by kernel_rfl) (by kernel_rfl) (by kernel_rfl) (fun _ _ _ h => h) (by assumption) (Or.inl ⟨by rfl, ?hy50⟩) (fun _ => rfl) ?rest50
                 case hy50 => (intro w hSw; (try dsimp only at hSw); go_simp; try with_reducible rfl))
              | (refine ordS_take (i := 1) (oi := { dst := some 48, op := Op.binOp BinOp.eql 31 (Operand.tmp 47) (Operand.const (Value.int IntKind.i64 0)) 31, type := 4, pos := _, after := #[{ on := 0, ground := Ground.data }], guard := none }) (v := undef) rfl (by kernel_rfl) (by kernel_rfl) (by kernel_rfl) (by kernel_rfl) (fun _ _ _ h => h) (by assumption) (Or.inr ⟨by rfl, rfl⟩) (fun _ => rfl) ?_)
            try simp only [Act.put, List.setIfInBounds_toArray, List.set_cons_zero, List.set_cons_succ]
            first
              | (refine' ordS_take (i := 2) (oi := { dst := some 49, op := Op.move (Operand.tmp 48), type := 4, pos := _, after := #[{ on := 1, ground := Ground.data }], guard := none }) (v := _) rfl (by kernel_rfl) (by kernel_rfl) (by kernel_rfl) (by kernel_rfl) (fun _ _ _ h => h) (by assumption) (Or.inl ⟨by rfl, ?hy51⟩) (fun _ => rfl) ?rest51
                 case hy51 => (intro w hSw; (try dsimp only at hSw); go_simp; try with_reducible rfl))
              | (refine ordS_take (i := 2) (oi := { dst := some 49, op := Op.move (Operand.tmp 48), type := 4, pos := _, after := #[{ on := 1, ground := Ground.data }], guard := none }) (v := undef) rfl (by kernel_rfl) (by kernel_rfl) (by kernel_rfl) (by kernel_rfl) (fun _ _ _ h => h) (by assumption) (Or.inr ⟨by rfl, rfl⟩) (fun _ => rfl) ?_)
            try simp only [Act.put, List.setIfInBounds_toArray, List.set_cons_zero, List.set_cons_succ]
            first
              | (refine' ordS_take (i := 3) (oi := { dst := some 50, op := Op.fieldAddr 26 (Operand.tmp 3) 0, type := 0, pos := _, after := #[{ on := 2, ground := Ground.guard }], guard := some (2, true) }) (v := _) rfl (by kernel_rfl) (by kernel_rfl) (by kernel_rfl) (by kernel_rfl) (fun _ _ _ h => h) (by assumption) (Or.inl ⟨by rfl, ?hy52⟩) (fun _ => rfl) ?rest52
                 case hy52 => (intro w hSw; (try dsimp only at hSw); go_simp; try with_reducible rfl))
              | (refine ordS_take (i := 3) (oi := { dst := some 50, op := Op.fieldAddr 26 (Operand.tmp 3) 0, type := 0, pos := _, after := #[{ on := 2, ground := Ground.guard }], guard := some (2, true) }) (v := undef) rfl (by kernel_rfl) (by kernel_rfl) (by kernel_rfl) (by kernel_rfl) (fun _ _ _ h => h) (by assumption) (Or.inr ⟨by rfl, rfl⟩) (fun _ => rfl) ?_)
            try simp only [Act.put, List.setIfInBounds_toArray, List.set_cons_zero, List.set_cons_succ]
            first
              | (refine' ordS_take (i := 4) (oi := { dst := some 51, op := Op.load 23 (Operand.tmp 50), type := 23, pos := _, after := #[{ on := 3, ground := Ground.data }, { on := 2, ground := Ground.guard }], guard := some (2, true) }) (v := _) rfl (by kernel_rfl) (by kernel_rfl) (by kernel_rfl) (by kernel_rfl) (fun _ _ _ h => h) (by assumption) (Or.inl ⟨by rfl, ?hy53⟩) (fun _ => rfl) ?rest53
                 case hy53 => (intro w hSw; (try dsimp only at hSw); go_simp; try with_reducible rfl))
              | (refine ordS_take (i := 4) (oi := { dst := some 51, op := Op.load 23 (Operand.tmp 50), type := 23, pos := _, after := #[{ on := 3, ground := Ground.data }, { on := 2, ground := Ground.guard }], guard := some (2, true) }) (v := undef) rfl (by kernel_rfl) (by kernel_rfl) (by kernel_rfl) (by kernel_rfl) (fun _ _ _ h => h) (by assumption) (Or.inr ⟨by rfl, rfl⟩) (fun _ => rfl) ?_)
            try simp only [Act.put, List.setIfInBounds_toArray, List.set_cons_zero, List.set_cons_succ]
            first
              | (refine' ordS_take (i := 5) (oi := { dst := some 52, op := Op.move (Operand.tmp 1), type := 27, pos := _, after := #[{ on := 2, ground := Ground.guard }], guard := some (2, true) }) (v := _) rfl (by kernel_rfl) (by kernel_rfl) (by kernel_rfl) (by kernel_rfl) (fun _ _ _ h => h) (by assumption) (Or.inl ⟨by rfl, ?hy54⟩) (fun _ => rfl) ?rest54
                 case hy54 => (intro w hSw; (try dsimp only at hSw); go_simp; try with_reducible rfl))
              | (refine ordS_take (i := 5) (oi := { dst := some 52, op := Op.move (Operand.tmp 1), type := 27, pos := _, after := #[{ on := 2, ground := Ground.guard }], guard := some (2, true) }) (v := undef) rfl (by kernel_rfl) (by kernel_rfl) (by kernel_rfl) (by kernel_rfl) (fun _ _ _ h => h) (by assumption) (Or.inr ⟨by rfl, rfl⟩) (fun _ => rfl) ?_)
            try simp only [Act.put, List.setIfInBounds_toArray, List.set_cons_zero, List.set_cons_succ]
            first
              | (refine' ordS_take (i := 6) (oi := { dst := some 53, op := Op.move (Operand.tmp 10), type := 3, pos := _, after := #[{ on := 2, ground := Ground.guard }], guard := some (2, true) }) (v := _) rfl (by kernel_rfl) (by kernel_rfl) (by kernel_rfl) (by kernel_rfl) (fun _ _ _ h => h) (by assumption) (Or.inl ⟨by rfl, ?hy55⟩) (fun _ => rfl) ?rest55
                 case hy55 => (intro w hSw; (try dsimp only at hSw); go_simp; try with_reducible rfl))
              | (refine ordS_take (i := 6) (oi := { dst := some 53, op := Op.move (Operand.tmp 10), type := 3, pos := _, after := #[{ on := 2, ground := Ground.guard }], guard := some (2, true) }) (v := undef) rfl (by kernel_rfl) (by kernel_rfl) (by kernel_rfl) (by kernel_rfl) (fun _ _ _ h => h) (by assumption) (Or.inr ⟨by rfl, rfl⟩) (fun _ => rfl) ?_)
            try simp only [Act.put, List.setIfInBounds_toArray, List.set_cons_zero, List.set_cons_succ]
            first
              | (refine' ordS_take (i := 7) (oi := { dst := some 54, op := Op.indexAddr 27 (Operand.tmp 52) (Operand.tmp 53), type := 0, pos := _, after := #[{ on := 5, ground := Ground.data }, { on := 6, ground := Ground.data }, { on := 2, ground := Ground.guard }], guard := some (2, true) }) (v := _) rfl (by kernel_rfl) (by kernel_rfl) (by kernel_rfl) (by kernel_rfl) (fun _ _ _ h => h) (by assumption) (Or.inl ⟨by rfl, ?hy56⟩) (fun _ => rfl) ?rest56
                 case hy56 => (intro w hSw; (try dsimp only at hSw); go_simp; try with_reducible rfl))
              | (refine ordS_take (i := 7) (oi := { dst := some 54, op := Op.indexAddr 27 (Operand.tmp 52) (Operand.tmp 53), type := 0, pos := _, after := #[{ on := 5, ground := Ground.data }, { on := 6, ground := Ground.data }, { on := 2, ground := Ground.guard }], guard := some (2, true) }) (v := undef) rfl (by kernel_rfl) (by kernel_rfl) (by kernel_rfl) (by kernel_rfl) (fun _ _ _ h => h) (by assumption) (Or.inr ⟨by rfl, rfl⟩) (fun _ => rfl) ?_)
            try simp only [Act.put, List.setIfInBounds_toArray, List.set_cons_zero, List.set_cons_succ]
            first
              | (refine' ordS_take (i := 8) (oi := { dst := some 55, op := Op.load 37 (Operand.tmp 54), type := 37, pos := _, after := #[{ on := 7, ground := Ground.data }, { on := 2, ground := Ground.guard }], guard := some (2, true) }) (v := _) rfl (by kernel_rfl) (by kernel_rfl) (by kernel_rfl) (by kernel_rfl) (fun _ _ _ h => h) (by assumption) (Or.inl ⟨by rfl, ?hy57⟩) (fun _ => rfl) ?rest57
                 case hy57 => (intro w hSw; (try dsimp only at hSw); go_simp; try with_reducible rfl))
              | (refine ordS_take (i := 8) (oi := { dst := some 55, op := Op.load 37 (Operand.tmp 54), type := 37, pos := _, after := #[{ on := 7, ground := Ground.data }, { on := 2, ground := Ground.guard }], guard := some (2, true) }) (v := undef) rfl (by kernel_rfl) (by kernel_rfl) (by kernel_rfl) (by kernel_rfl) (fun _ _ _ h => h) (by assumption) (Or.inr ⟨by rfl, rfl⟩) (fun _ => rfl) ?_)
            try simp only [Act.put, List.setIfInBounds_toArray, List.set_cons_zero, List.set_cons_succ]
            refine ordS_one (i := 9) (o := { dst := some 56, op := Op.call { callee := Callee.value (Operand.func 18), args := #[Operand.tmp 51, Operand.tmp 55], argTypes := #[23, 37] }, type := 4, pos := _, after := #[{ on := 4, ground := Ground.data }, { on := 8, ground := Ground.data }, { on := 2, ground := Ground.chain }, { on := 2, ground := Ground.guard }], guard := some (2, true) }) (by kernel_rfl) rfl (by rfl) (fun K hK => ?_)
            go_simp
            refine ⟨trivial, ?_⟩
            with_reducible refine (callsIn_wide.2 (rin_any A B x y _)).mono ?_
            rintro e w8 ⟨rfl, hb8⟩
            have hb8' := bl_tr hD hb8
            have hS8 : (fun w' : World => w'.cell? ⟨gz, oz + k * 2, none⟩ = some (.int .i64 x) ∧ w'.cell? ⟨gz, oz + k * 2 + 1, none⟩ = some (.int .i64 y) ∧ w'.cell? ⟨w.heap.size, 0, none⟩ = some (.int .i64 A) ∧ w'.cell? ⟨w.heap.size, 1, none⟩ = some (.int .i64 B)) w8 := ⟨cell_later hb8' p0, cell_later hb8' p1, cell_later hb8' f0, cell_later hb8' f1⟩
            have HB8 := Lib.hid (bl_tr hB hb8')
            refine hK _ _ hS8 ?_
            clear hK K hH hb8 hb8' hB p0 p1 f0 f1
            try simp only [Act.put, List.setIfInBounds_toArray, List.set_cons_zero, List.set_cons_succ]
            cases hi : inB A B x y
            · rw [hi] at HNX
              first
                | (refine' ordS_take (i := 10) (oi := { dst := some 57, op := Op.unOp UnOp.not 4 (Operand.tmp 56), type := 4, pos := _, after := #[{ on := 9, ground := Ground.data }, { on := 2, ground := Ground.guard }], guard := some (2, true) }) (v := _) rfl (by kernel_rfl) (by kernel_rfl) (by kernel_rfl) (by kernel_rfl) (fun _ _ _ h => h) (by assumption) (Or.inl ⟨by rfl, ?hy58⟩) (fun _ => rfl) ?rest58
                   case hy58 => (intro w hSw; (try dsimp only at hSw); go_simp; try with_reducible rfl))
                | (refine ordS_take (i := 10) (oi := { dst := some 57, op := Op.unOp UnOp.not 4 (Operand.tmp 56), type := 4, pos := _, after := #[{ on := 9, ground := Ground.data }, { on := 2, ground := Ground.guard }], guard := some (2, true) }) (v := undef) rfl (by kernel_rfl) (by kernel_rfl) (by kernel_rfl) (by kernel_rfl) (fun _ _ _ h => h) (by assumption) (Or.inr ⟨by rfl, rfl⟩) (fun _ => rfl) ?_)
              try simp only [Act.put, List.setIfInBounds_toArray, List.set_cons_zero, List.set_cons_succ]
              first
                | (refine' ordS_take (i := 11) (oi := { dst := some 58, op := Op.pick (Operand.tmp 49) (Operand.tmp 57) (Operand.const (Value.bool false)), type := 4, pos := _, after := #[{ on := 2, ground := Ground.data }, { on := 10, ground := Ground.data }], guard := none }) (v := _) rfl (by kernel_rfl) (by kernel_rfl) (by kernel_rfl) (by kernel_rfl) (fun _ _ _ h => h) (by assumption) (Or.inl ⟨by rfl, ?hy59⟩) (fun _ => rfl) ?rest59
                   case hy59 => (intro w hSw; (try dsimp only at hSw); go_simp; try with_reducible rfl))
                | (refine ordS_take (i := 11) (oi := { dst := some 58, op := Op.pick (Operand.tmp 49) (Operand.tmp 57) (Operand.const (Value.bool false)), type := 4, pos := _, after := #[{ on := 2, ground := Ground.data }, { on := 10, ground := Ground.data }], guard := none }) (v := undef) rfl (by kernel_rfl) (by kernel_rfl) (by kernel_rfl) (by kernel_rfl) (fun _ _ _ h => h) (by assumption) (Or.inr ⟨by rfl, rfl⟩) (fun _ => rfl) ?_)
              try simp only [Act.put, List.setIfInBounds_toArray, List.set_cons_zero, List.set_cons_succ]
              refine ordS_done (by kernel_rfl) ?_
              clear hS8 hi
              go_wp2
              go_roundw
              case rel => exact ⟨k + 1, by omega, by go_num, by rw [HNX.out]; rfl, HB8.out⟩
              case measure => simp [intOf]; omega
            · rw [hi] at HNX
              first
                | (refine' ordS_take (i := 10) (oi := { dst := some 57, op := Op.unOp UnOp.not 4 (Operand.tmp 56), type := 4, pos := _, after := #[{ on := 9, ground := Ground.data }, { on := 2, ground := Ground.guard }], guard := some (2, true) }) (v := _) rfl (by kernel_rfl) (by kernel_rfl) (by kernel_rfl) (by kernel_rfl) (fun _ _ _ h => h) (by assumption) (Or.inl ⟨by rfl, ?hy60⟩) (fun _ => rfl) ?rest60
                   case hy60 => (intro w hSw; (try dsimp only at hSw); go_simp; try with_reducible rfl))
                | (refine ordS_take (i := 10) (oi := { dst := some 57, op := Op.unOp UnOp.not 4 (Operand.tmp 56), type := 4, pos := _, after := #[{ on := 9, ground := Ground.data }, { on := 2, ground := Ground.guard }], guard := some (2, true) }) (v := undef) rfl (by kernel_rfl) (by kernel_rfl) (by kernel_rfl) (by kernel_rfl) (fun _ _ _ h => h) (by assumption) (Or.inr ⟨by rfl, rfl⟩) (fun _ => rfl) ?_)
              try simp only [Act.put, List.setIfInBounds_toArray, List.set_cons_zero, List.set_cons_succ]
              first
                | (refine' ordS_take (i := 11) (oi := { dst := some 58, op := Op.pick (Operand.tmp 49) (Operand.tmp 57) (Operand.const (Value.bool false)), type := 4, pos := _, after := #[{ on := 2, ground := Ground.data }, { on := 10, ground := Ground.data }], guard := none }) (v := _) rfl (by kernel_rfl) (by kernel_rfl) (by kernel_rfl) (by kernel_rfl) (fun _ _ _ h => h) (by assumption) (Or.inl ⟨by rfl, ?hy61⟩) (fun _ => rfl) ?rest61
                   case hy61 => (intro w hSw; (try dsimp only at hSw); go_simp; try with_reducible rfl))
                | (refine ordS_take (i := 11) (oi := { dst := some 58, op := Op.pick (Operand.tmp 49) (Operand.tmp 57) (Operand.const (Value.bool false)), type := 4, pos := _, after := #[{ on := 2, ground := Ground.data }, { on := 10, ground := Ground.data }], guard := none }) (v := undef) rfl (by kernel_rfl) (by kernel_rfl) (by kernel_rfl) (by kernel_rfl) (fun _ _ _ h => h) (by assumption) (Or.inr ⟨by rfl, rfl⟩) (fun _ => rfl) ?_)
              try simp only [Act.put, List.setIfInBounds_toArray, List.set_cons_zero, List.set_cons_succ]
              refine ordS_done (by kernel_rfl) ?_
              clear hS8 hi
              go_wp2
              go_roundw
              case rel => exact ⟨k + 1, by omega, by go_num, by rw [HNX.out]; rfl, HB8.out⟩
              case measure => simp [intOf]; omega
          · have hk2 := HKEEP.out hq0
            have HK2 := Lib.hid hk2
            have be : (q == 0) = false := beq_eq_false_iff_ne.2 hq0
            clear hk2 hq0
            go_upto_region 10 with fail
            refine (wpIn_wide (n := 11)).1 ?_
            refine ordS_begin (S := (fun w' : World => w'.cell? ⟨gz, oz + k * 2, none⟩ = some (.int .i64 x) ∧ w'.cell? ⟨gz, oz + k * 2 + 1, none⟩ = some (.int .i64 y) ∧ w'.cell? ⟨w.heap.size, 0, none⟩ = some (.int .i64 A) ∧ w'.cell? ⟨w.heap.size, 1, none⟩ = some (.int .i64 B))) (by kernel_rfl) ⟨cell_later hD p0, cell_later hD p1, cell_later hD f0, cell_later hD f1⟩ (fun hH => ?_)
            first
              | (refine' ordS_take (i := 0) (oi := { dst := some 47, op := Op.move (Operand.tmp 9), type := 31, pos := _, after := #[], guard := none }) (v := _) rfl (by kernel_rfl) (by kernel_rfl) (by kernel_rfl) (by kernel_rfl) (fun _ _ _ h => h) (by assumption) (Or.inl ⟨by rfl, ?hy62⟩) (fun _ => rfl) ?rest62
                 case hy62 => (intro w hSw; (try dsimp only at hSw); go_simp; try with_reducible rfl))
              | (refine ordS_take (i := 0) (oi := { dst := some 47, op := Op.move (Operand.tmp 9), type := 31, pos := _, after := #[], guard := none }) (v := undef) rfl (by kernel_rfl) (by kernel_rfl) (by kernel_rfl) (by kernel_rfl) (fun _ _ _ h => h) (by assumption) (Or.inr ⟨by rfl, rfl⟩) (fun _ => rfl) ?_)
            try simp only [Act.put, List.setIfInBounds_toArray, List.set_cons_zero, List.set_cons_succ]
            first
              | (refine' ordS_take (i := 1) (oi := { dst := some 48, op := Op.binOp BinOp.eql 31 (Operand.tmp 47) (Operand.const (Value.int IntKind.i64 0)) 31, type := 4, pos := _, after := #[{ on := 0, ground := Ground.data }], guard := none }) (v := _) rfl (by kernel_rfl) (by kernel_rfl) (by kernel_rfl) (by kernel_rfl) (fun _ _ _ h => h) (by assumption) (Or.inl ⟨by rfl, ?hy63⟩) (fun _ => rfl) ?rest63
                 case hy63 => (intro w hSw; (try dsimp only at hSw); go_simp; try with_reducible rfl))
              | (refine ordS_take (i := 1) (oi := { dst := some 48, op := Op.binOp BinOp.eql 31 (Operand.tmp 47) (Operand.const (Value.int IntKind.i64 0)) 31, type := 4, pos := _, after := #[{ on := 0, ground := Ground.data }], guard := none }) (v := undef) rfl (by kernel_rfl) (by kernel_rfl) (by kernel_rfl) (by kernel_rfl) (fun _ _ _ h => h) (by assumption) (Or.inr ⟨by rfl, rfl⟩) (fun _ => rfl) ?_)
            try simp only [Act.put, List.setIfInBounds_toArray, List.set_cons_zero, List.set_cons_succ]
            first
              | (refine' ordS_take (i := 2) (oi := { dst := some 49, op := Op.move (Operand.tmp 48), type := 4, pos := _, after := #[{ on := 1, ground := Ground.data }], guard := none }) (v := _) rfl (by kernel_rfl) (by kernel_rfl) (by kernel_rfl) (by kernel_rfl) (fun _ _ _ h => h) (by assumption) (Or.inl ⟨by rfl, ?hy64⟩) (fun _ => rfl) ?rest64
                 case hy64 => (intro w hSw; (try dsimp only at hSw); go_simp; try with_reducible rfl))
              | (refine ordS_take (i := 2) (oi := { dst := some 49, op := Op.move (Operand.tmp 48), type := 4, pos := _, after := #[{ on := 1, ground := Ground.data }], guard := none }) (v := undef) rfl (by kernel_rfl) (by kernel_rfl) (by kernel_rfl) (by kernel_rfl) (fun _ _ _ h => h) (by assumption) (Or.inr ⟨by rfl, rfl⟩) (fun _ => rfl) ?_)
            try simp only [Act.put, List.setIfInBounds_toArray, List.set_cons_zero, List.set_cons_succ]
            first
              | (refine' ordS_take (i := 3) (oi := { dst := some 50, op := Op.fieldAddr 26 (Operand.tmp 3) 0, type := 0, pos := _, after := #[{ on := 2, ground := Ground.guard }], guard := some (2, true) }) (v := _) rfl (by kernel_rfl) (by kernel_rfl) (by kernel_rfl) (by kernel_rfl) (fun _ _ _ h => h) (by assumption) (Or.inl ⟨by rfl, ?hy65⟩) (fun _ => rfl) ?rest65
                 case hy65 => (intro w hSw; (try dsimp only at hSw); go_simp; try with_reducible rfl))
              | (refine ordS_take (i := 3) (oi := { dst := some 50, op := Op.fieldAddr 26 (Operand.tmp 3) 0, type := 0, pos := _, after := #[{ on := 2, ground := Ground.guard }], guard := some (2, true) }) (v := undef) rfl (by kernel_rfl) (by kernel_rfl) (by kernel_rfl) (by kernel_rfl) (fun _ _ _ h => h) (by assumption) (Or.inr ⟨by rfl, rfl⟩) (fun _ => rfl) ?_)
            try simp only [Act.put, List.setIfInBounds_toArray, List.set_cons_zero, List.set_cons_succ]
            first
              | (refine' ordS_take (i := 4) (oi := { dst := some 51, op := Op.load 23 (Operand.tmp 50), type := 23, pos := _, after := #[{ on := 3, ground := Ground.data }, { on := 2, ground := Ground.guard }], guard := some (2, true) }) (v := _) rfl (by kernel_rfl) (by kernel_rfl) (by kernel_rfl) (by kernel_rfl) (fun _ _ _ h => h) (by assumption) (Or.inl ⟨by rfl, ?hy66⟩) (fun _ => rfl) ?rest66
                 case hy66 => (intro w hSw; (try dsimp only at hSw); go_simp; try with_reducible rfl))
              | (refine ordS_take (i := 4) (oi := { dst := some 51, op := Op.load 23 (Operand.tmp 50), type := 23, pos := _, after := #[{ on := 3, ground := Ground.data }, { on := 2, ground := Ground.guard }], guard := some (2, true) }) (v := undef) rfl (by kernel_rfl) (by kernel_rfl) (by kernel_rfl) (by kernel_rfl) (fun _ _ _ h => h) (by assumption) (Or.inr ⟨by rfl, rfl⟩) (fun _ => rfl) ?_)
            try simp only [Act.put, List.setIfInBounds_toArray, List.set_cons_zero, List.set_cons_succ]
            first
              | (refine' ordS_take (i := 5) (oi := { dst := some 52, op := Op.move (Operand.tmp 1), type := 27, pos := _, after := #[{ on := 2, ground := Ground.guard }], guard := some (2, true) }) (v := _) rfl (by kernel_rfl) (by kernel_rfl) (by kernel_rfl) (by kernel_rfl) (fun _ _ _ h => h) (by assumption) (Or.inl ⟨by rfl, ?hy67⟩) (fun _ => rfl) ?rest67
                 case hy67 => (intro w hSw; (try dsimp only at hSw); go_simp; try with_reducible rfl))
              | (refine ordS_take (i := 5) (oi := { dst := some 52, op := Op.move (Operand.tmp 1), type := 27, pos := _, after := #[{ on := 2, ground := Ground.guard }], guard := some (2, true) }) (v := undef) rfl (by kernel_rfl) (by kernel_rfl) (by kernel_rfl) (by kernel_rfl) (fun _ _ _ h => h) (by assumption) (Or.inr ⟨by rfl, rfl⟩) (fun _ => rfl) ?_)
            try simp only [Act.put, List.setIfInBounds_toArray, List.set_cons_zero, List.set_cons_succ]
            first
              | (refine' ordS_take (i := 6) (oi := { dst := some 53, op := Op.move (Operand.tmp 10), type := 3, pos := _, after := #[{ on := 2, ground := Ground.guard }], guard := some (2, true) }) (v := _) rfl (by kernel_rfl) (by kernel_rfl) (by kernel_rfl) (by kernel_rfl) (fun _ _ _ h => h) (by assumption) (Or.inl ⟨by rfl, ?hy68⟩) (fun _ => rfl) ?rest68
                 case hy68 => (intro w hSw; (try dsimp only at hSw); go_simp; try with_reducible rfl))
              | (refine ordS_take (i := 6) (oi := { dst := some 53, op := Op.move (Operand.tmp 10), type := 3, pos := _, after := #[{ on := 2, ground := Ground.guard }], guard := some (2, true) }) (v := undef) rfl (by kernel_rfl) (by kernel_rfl) (by kernel_rfl) (by kernel_rfl) (fun _ _ _ h => h) (by assumption) (Or.inr ⟨by rfl, rfl⟩) (fun _ => rfl) ?_)
            try simp only [Act.put, List.setIfInBounds_toArray, List.set_cons_zero, List.set_cons_succ]
            first
              | (refine' ordS_take (i := 7) (oi := { dst := some 54, op := Op.indexAddr 27 (Operand.tmp 52) (Operand.tmp 53), type := 0, pos := _, after := #[{ on := 5, ground := Ground.data }, { on := 6, ground := Ground.data }, { on := 2, ground := Ground.guard }], guard := some (2, true) }) (v := _) rfl (by kernel_rfl) (by kernel_rfl) (by kernel_rfl) (by kernel_rfl) (fun _ _ _ h => h) (by assumption) (Or.inl ⟨by rfl, ?hy69⟩) (fun _ => rfl) ?rest69
                 case hy69 => (intro w hSw; (try dsimp only at hSw); go_simp; try with_reducible rfl))
              | (refine ordS_take (i := 7) (oi := { dst := some 54, op := Op.indexAddr 27 (Operand.tmp 52) (Operand.tmp 53), type := 0, pos := _, after := #[{ on := 5, ground := Ground.data }, { on := 6, ground := Ground.data }, { on := 2, ground := Ground.guard }], guard := some (2, true) }) (v := undef) rfl (by kernel_rfl) (by kernel_rfl) (by kernel_rfl) (by kernel_rfl) (fun _ _ _ h => h) (by assumption) (Or.inr ⟨by rfl, rfl⟩) (fun _ => rfl) ?_)
            try simp only [Act.put, List.setIfInBounds_toArray, List.set_cons_zero, List.set_cons_succ]
            first
              | (refine' ordS_take (i := 8) (oi := { dst := some 55, op := Op.load 37 (Operand.tmp 54), type := 37, pos := _, after := #[{ on := 7, ground := Ground.data }, { on := 2, ground := Ground.guard }], guard := some (2, true) }) (v := _) rfl (by kernel_rfl) (by kernel_rfl) (by kernel_rfl) (by kernel_rfl) (fun _ _ _ h => h) (by assumption) (Or.inl ⟨by rfl, ?hy70⟩) (fun _ => rfl) ?rest70
                 case hy70 => (intro w hSw; (try dsimp only at hSw); go_simp; try with_reducible rfl))
              | (refine ordS_take (i := 8) (oi := { dst := some 55, op := Op.load 37 (Operand.tmp 54), type := 37, pos := _, after := #[{ on := 7, ground := Ground.data }, { on := 2, ground := Ground.guard }], guard := some (2, true) }) (v := undef) rfl (by kernel_rfl) (by kernel_rfl) (by kernel_rfl) (by kernel_rfl) (fun _ _ _ h => h) (by assumption) (Or.inr ⟨by rfl, rfl⟩) (fun _ => rfl) ?_)
            try simp only [Act.put, List.setIfInBounds_toArray, List.set_cons_zero, List.set_cons_succ]
            refine ordS_skip (i := 9) (o := { dst := some 56, op := Op.call { callee := Callee.value (Operand.func 18), args := #[Operand.tmp 51, Operand.tmp 55], argTypes := #[23, 37] }, type := 4, pos := _, after := #[{ on := 4, ground := Ground.data }, { on := 8, ground := Ground.data }, { on := 2, ground := Ground.chain }, { on := 2, ground := Ground.guard }], guard := some (2, true) }) (by kernel_rfl) rfl (by rfl) (fun _ => trivial) hH ?_
            try simp only [Act.put, List.setIfInBounds_toArray, List.set_cons_zero, List.set_cons_succ]
            first
              | (refine' ordS_take (i := 10) (oi := { dst := some 57, op := Op.unOp UnOp.not 4 (Operand.tmp 56), type := 4, pos := _, after := #[{ on := 9, ground := Ground.data }, { on := 2, ground := Ground.guard }], guard := some (2, true) }) (v := _) rfl (by kernel_rfl) (by kernel_rfl) (by kernel_rfl) (by kernel_rfl) (fun _ _ _ h => h) (by assumption) (Or.inl ⟨by rfl, ?hy71⟩) (fun _ => rfl) ?rest71
                 case hy71 => (intro w hSw; (try dsimp only at hSw); go_simp; try with_reducible rfl))
              | (refine ordS_take (i := 10) (oi := { dst := some 57, op := Op.unOp UnOp.not 4 (Operand.tmp 56), type := 4, pos := _, after := #[{ on := 9, ground := Ground.data }, { on := 2, ground := Ground.guard }], guard := some (2, true) }) (v := undef) rfl (by kernel_rfl) (by kernel_rfl) (by kernel_rfl) (by kernel_rfl) (fun _ _ _ h => h) (by assumption) (Or.inr ⟨by rfl, rfl⟩) (fun _ => rfl) ?_)
            try simp only [Act.put, List.setIfInBounds_toArray, List.set_cons_zero, List.set_cons_succ]
            first
              | (refine' ordS_take (i := 11) (oi := { dst := some 58, op := Op.pick (Operand.tmp 49) (Operand.tmp 57) (Operand.const (Value.bool false)), type := 4, pos := _, after := #[{ on := 2, ground := Ground.data }, { on := 10, ground := Ground.data }], guard := none }) (v := _) rfl (by kernel_rfl) (by kernel_rfl) (by kernel_rfl) (by kernel_rfl) (fun _ _ _ h => h) (by assumption) (Or.inl ⟨by rfl, ?hy72⟩) (fun _ => rfl) ?rest72
                 case hy72 => (intro w hSw; (try dsimp only at hSw); go_simp; try with_reducible rfl))
              | (refine ordS_take (i := 11) (oi := { dst := some 58, op := Op.pick (Operand.tmp 49) (Operand.tmp 57) (Operand.const (Value.bool false)), type := 4, pos := _, after := #[{ on := 2, ground := Ground.data }, { on := 10, ground := Ground.data }], guard := none }) (v := undef) rfl (by kernel_rfl) (by kernel_rfl) (by kernel_rfl) (by kernel_rfl) (fun _ _ _ h => h) (by assumption) (Or.inr ⟨by rfl, rfl⟩) (fun _ => rfl) ?_)
            try simp only [Act.put, List.setIfInBounds_toArray, List.set_cons_zero, List.set_cons_succ]
            refine ordS_done (by kernel_rfl) ?_
            have HB8 := Lib.hid (bl_tr hB hD)
            clear hH hB hD p0 p1 f0 f1
            go_wp2
            go_roundw
            case rel => exact ⟨k + 1, by omega, by go_num, by rw [HK2.out], HB8.out⟩
            case measure => simp [intOf]; omega
        · obtain rfl : k = zs.length := by omega
          rw [want_all]
          rw [HQ1.out]
          have hA4 := bl_tr hA hB
          clear hB
          go_wp2_with fail
          refine (awake_any _).mono ?_
          rintro e w9 ⟨rfl, hb9⟩
          have hA9 := bl_tr hA4 hb9
          clear hb9 hA4
          go_wp2
          go_ret
          exact ⟨rfl, hA9⟩
  · have HW0 := Lib.hid (HW00.out.trans e2)
    clear e2 HW00
    go_wp2_with fail
    clear f0 f1 f2
    go_loopw [9, 10] (fun v i wr => ∃ k : Nat, k ≤ zs.length ∧ i = .int .i64 k ∧ v = .int .i64 (wantK A B (want0 A B fs.length r) zs k) ∧ Below w3.heap.size w3 wr) (fun _ i _ => zs.length - (intOf i).toNat)
    case atStart => exact ⟨0, Nat.zero_le _, rfl, by rw [HW0.out], bl0 _⟩
    case round =>
      obtain ⟨k, hk, rfl, rfl, hB⟩ := hrel
      have hk0 : (0 : Int) ≤ (k : Int) := by omega
      by_cases hlt : k < zs.length
      · have hlt2 : (k : Int) < (zs.length : Int) := by omega
        obtain ⟨gz, oz, rfl, p0, p1⟩ := hz3.cell hlt
        replace p0 := cell_later hB p0
        replace p1 := cell_later hB p1
        have f0 := cell_later hB F0.out
        have f1 := cell_later hB F1.out
        obtain ⟨x, hx⟩ : ∃ x, zs[k].1 = x := ⟨_, rfl⟩
        obtain ⟨y, hy⟩ : ∃ y, zs[k].2 = y := ⟨_, rfl⟩
        have HKEEP := Lib.hid (wantK_keep (A := A) (B := B) (e0 := want0 A B fs.length r) (zs := zs) (k := k))
        have HNEXT := Lib.hid (wantK_next (A := A) (B := B) (e0 := want0 A B fs.length r) (zs := zs) (k := k) hlt)
        rw [hx] at p0 HNEXT
        rw [hy] at p1 HNEXT
        obtain ⟨q, hq⟩ : ∃ q, wantK A B (want0 A B fs.length r) zs k = q := ⟨_, rfl⟩
        rw [hq] at HKEEP HNEXT
        rw [hq]
        clear hx hy hq
        have hD := bl_dr (bl0 wr)
        by_cases hq0 : q = 0
        · subst hq0
          have hnx := HNEXT.out rfl
          have HNX := Lib.hid hnx
          clear hnx
          go_upto_region 10 with fail
          refine (wpIn_wide (n := 11)).1 ?_
          refine ordS_begin (S := (fun w' : World => w'.cell? ⟨gz, oz + k * 2, none⟩ = some (.int .i64 x) ∧ w'.cell? ⟨gz, oz + k * 2 + 1, none⟩ = some (.int .i64 y) ∧ w'.cell? ⟨w.heap.size, 0, none⟩ = some (.int .i64 A) ∧ w'.cell? ⟨w.heap.size, 1, none⟩ = some (.int .i64 B))) (by kernel_rfl) ⟨cell_later hD p0, cell_later hD p1, cell_later hD f0, cell_later hD f1⟩ (fun hH => ?_)
          first
            | (refine' ordS_take (i := 0) (oi := { dst := some 47, op := Op.move (Operand.tmp 9), type := 31, pos := _, after := #[], guard := none }) (v := _) rfl (by kernel_rfl) (by kernel_rfl) (by kernel_rfl) (by kernel_rfl) (fun _ _ _ h => h) (by assumption) (Or.inl ⟨by rfl, ?hy73⟩) (fun _ => rfl) ?rest73
               case hy73 => (intro w hSw; (try dsimp only at hSw); go_simp; try with_reducible rfl))
            | (refine ordS_take (i := 0) (oi := { dst := some 47, op := Op.move (Operand.tmp 9), type := 31, pos := _, after := #[], guard := none }) (v := undef) rfl (by kernel_rfl) (by kernel_rfl) (by kernel_rfl) (by kernel_rfl) (fun _ _ _ h => h) (by assumption) (Or.inr ⟨by rfl, rfl⟩) (fun _ => rfl) ?_)
          try simp only [Act.put, List.setIfInBounds_toArray, List.set_cons_zero, List.set_cons_succ]
          first
            | (refine' ordS_take (i := 1) (oi := { dst := some 48, op := Op.binOp BinOp.eql 31 (Operand.tmp 47) (Operand.const (Value.int IntKind.i64 0)) 31, type := 4, pos := _, after := #[{ on := 0, ground := Ground.data }], guard := none }) (v := _) rfl (by kernel_rfl) (by kernel_rfl) (by kernel_rfl) (by kernel_rfl) (fun _ _ _ h => h) (by assumption) (Or.inl ⟨by rfl, ?hy74⟩) (fun _ => rfl) ?rest74
               case hy74 => (intro w hSw; (try dsimp only at hSw); go_simp; try with_reducible rfl))
            | (refine ordS_take (i := 1) (oi := { dst := some 48, op := Op.binOp BinOp.eql 31 (Operand.tmp 47) (Operand.const (Value.int IntKind.i64 0)) 31, type := 4, pos := _, after := #[{ on := 0, ground := Ground.data }], guard := none }) (v := undef) rfl (by kernel_rfl) (by kernel_rfl) (by kernel_rfl) (by kernel_rfl) (fun _ _ _ h => h) (by assumption) (Or.inr ⟨by rfl, rfl⟩) (fun _ => rfl) ?_)
          try simp only [Act.put, List.setIfInBounds_toArray, List.set_cons_zero, List.set_cons_succ]
          first
            | (refine' ordS_take (i := 2) (oi := { dst := some 49, op := Op.move (Operand.tmp 48), type := 4, pos := _, after := #[{ on := 1, ground := Ground.data }], guard := none }) (v := _) rfl (by kernel_rfl) (by kernel_rfl) (by kernel_rfl) (by kernel_rfl) (fun _ _ _ h => h) (by assumption) (Or.inl ⟨by rfl, ?hy75⟩) (fun _ => rfl) ?rest75
               case hy75 => (intro w hSw; (try dsimp only at hSw); go_simp; try with_reducible rfl))
            | (refine ordS_take (i := 2) (oi := { dst := some 49, op := Op.move (Operand.tmp 48), type := 4, pos := _, after := #[{ on := 1, ground := Ground.data }], guard := none }) (v := undef) rfl (by kernel_rfl) (by kernel_rfl) (by kernel_rfl) (by kernel_rfl) (fun _ _ _ h => h) (by assumption) (Or.inr ⟨by rfl, rfl⟩) (fun _ => rfl) ?_)
          try simp only [Act.put, List.setIfInBounds_toArray, List.set_cons_zero, List.set_cons_succ]
          first
            | (refine' ordS_take (i := 3) (oi := { dst := some 50, op := Op.fieldAddr 26 (Operand.tmp 3) 0, type := 0, pos := _, after := #[{ on := 2, ground := Ground.guard }], guard := some (2, true) }) (v := _) rfl (by kernel_rfl) (by kernel_rfl) (by kernel_rfl) (by kernel_rfl) (fun _ _ _ h => h) (by assumption) (Or.inl ⟨by rfl, ?hy76⟩) (fun _ => rfl) ?rest76
               case hy76 => (intro w hSw; (try dsimp only at hSw); go_simp; try with_reducible rfl))
            | (refine ordS_take (i := 3) (oi := { dst := some 50, op := Op.fieldAddr 26 (Operand.tmp 3) 0, type := 0, pos := _, after := #[{ on := 2, ground := Ground.guard }], guard := some (2, true) }) (v := undef) rfl (by kernel_rfl) (by kernel_rfl) (by kernel_rfl) (by kernel_rfl) (fun _ _ _ h => h) (by assumption) (Or.inr ⟨by rfl, rfl⟩) (fun _ => rfl) ?_)
          try simp only [Act.put, List.setIfInBounds_toArray, List.set_cons_zero, List.set_cons_succ]
          first
            | (refine' ordS_take (i := 4) (oi := { dst := some 51, op := Op.load 23 (Operand.tmp 50), type := 23, pos := _, after := #[{ on := 3, ground := Ground.data }, { on := 2, ground := Ground.guard }], guard := some (2, true) }) (v := _) rfl (by kernel_rfl) (by kernel_rfl) (by kernel_rfl) (by kernel_rfl) (fun _ _ _ h => h) (by assumption) (Or.inl ⟨by rfl, ?hy77⟩) (fun _ => rfl) ?rest77
               case hy77 => (intro w hSw; (try dsimp only at hSw); go_simp; try with_reducible rfl))
            | (refine ordS_take (i := 4) (oi := { dst := some 51, op := Op.load 23 (Operand.tmp 50), type := 23, pos := _, after := #[{ on := 3, ground := Ground.data }, { on := 2, ground := Ground.guard }], guard := some (2, true) }) (v := undef) rfl (by kernel_rfl) (by kernel_rfl) (by kernel_rfl) (by kernel_rfl) (fun _ _ _ h => h) (by assumption) (Or.inr ⟨by rfl, rfl⟩) (fun _ => rfl) ?_)
          try simp only [Act.put, List.setIfInBounds_toArray, List.set_cons_zero, List.set_cons_succ]
          first
            | (refine' ordS_take (i := 5) (oi := { dst := some 52, op := Op.move (Operand.tmp 1), type := 27, pos := _, after := #[{ on := 2, ground := Ground.guard }], guard := some (2, true) }) (v := _) rfl (by kernel_rfl) (by kernel_rfl) (by kernel_rfl) (by kernel_rfl) (fun _ _ _ h => h) (by assumption) (Or.inl ⟨by rfl, ?hy78⟩) (fun _ => rfl) ?rest78
               case hy78 => (intro w hSw; (try dsimp only at hSw); go_simp; try with_reducible rfl))
            | (refine ordS_take (i := 5) (oi := { dst := some 52, op := Op.move (Operand.tmp 1), type := 27, pos := _, after := #[{ on := 2, ground := Ground.guard }], guard := some (2, true) }) (v := undef) rfl (by kernel_rfl) (by kernel_rfl) (by kernel_rfl) (by kernel_rfl) (fun _ _ _ h => h) (by assumption) (Or.inr ⟨by rfl, rfl⟩) (fun _ => rfl) ?_)
          try simp only [Act.put, List.setIfInBounds_toArray, List.set_cons_zero, List.set_cons_succ]
          first
            | (refine' ordS_take (i := 6) (oi := { dst := some 53, op := Op.move (Operand.tmp 10), type := 3, pos := _, after := #[{ on := 2, ground := Ground.guard }], guard := some (2, true) }) (v := _) rfl (by kernel_rfl) (by kernel_rfl) (by kernel_rfl) (by kernel_rfl) (fun _ _ _ h => h) (by assumption) (Or.inl ⟨by rfl, ?hy79⟩) (fun _ => rfl) ?rest79
               case hy79 => (intro w hSw; (try dsimp only at hSw); go_simp; try with_reducible rfl))
            | (refine ordS_take (i := 6) (oi := { dst := some 53, op := Op.move (Operand.tmp 10), type := 3, pos := _, after := #[{ on := 2, ground := Ground.guard }], guard := some (2, true) }) (v := undef) rfl (by kernel_rfl) (by kernel_rfl) (by kernel_rfl) (by kernel_rfl) (fun _ _ _ h => h) (by assumption) (Or.inr ⟨by rfl, rfl⟩) (fun _ => rfl) ?_)
          try simp only [Act.put, List.setIfInBounds_toArray, List.set_cons_zero, List.set_cons_succ]
          first
            | (refine' ordS_take (i := 7) (oi := { dst := some 54, op := Op.indexAddr 27 (Operand.tmp 52) (Operand.tmp 53), type := 0, pos := _, after := #[{ on := 5, ground := Ground.data }, { on := 6, ground := Ground.data }, { on := 2, ground := Ground.guard }], guard := some (2, true) }) (v := _) rfl (by kernel_rfl) (by kernel_rfl) (by kernel_rfl) (by kernel_rfl) (fun _ _ _ h => h) (by assumption) (Or.inl ⟨by rfl, ?hy80⟩) (fun _ => rfl) ?rest80
               case hy80 => (intro w hSw; (try dsimp only at hSw); go_simp; try with_reducible rfl))
            | (refine ordS_take (i := 7) (oi := { dst := some 54, op := Op.indexAddr 27 (Operand.tmp 52) (Operand.tmp 53), type := 0, pos := _, after := #[{ on := 5, ground := Ground.data }, { on := 6, ground := Ground.data }, { on := 2, ground := Ground.guard }], guard := some (2, true) }) (v := undef) rfl (by kernel_rfl) (by kernel_rfl) (by kernel_rfl) (by kernel_rfl) (fun _ _ _ h => h) (by assumption) (Or.inr ⟨by rfl, rfl⟩) (fun _ => rfl) ?_)
          try simp only [Act.put, List.setIfInBounds_toArray, List.set_cons_zero, List.set_cons_succ]
          first
            | (refine' ordS_take (i := 8) (oi := { dst := some 55, op := Op.load 37 (Operand.tmp 54), type := 37, pos := _, after := #[{ on := 7, ground := Ground.data }, { on := 2, ground := Ground.guard }], guard := some (2, true) }) (v := _) rfl (by kernel_rfl) (by kernel_rfl) (by kernel_rfl) (by kernel_rfl) (fun _ _ _ h => h) (by assumption) (Or.inl ⟨by rfl, ?hy81⟩) (fun _ => rfl) ?rest81
               case hy81 => (intro w hSw; (try dsimp only at hSw); go_simp; try with_reducible rfl))
            | (refine ordS_take (i := 8) (oi := { dst := some 55, op := Op.load 37 (Operand.tmp 54), type := 37, pos := _, after := #[{ on := 7, ground := Ground.data }, { on := 2, ground := Ground.guard }], guard := some (2, true) }) (v := undef) rfl (by kernel_rfl) (by kernel_rfl) (by kernel_rfl) (by kernel_rfl) (fun _ _ _ h => h) (by assumption) (Or.inr ⟨by rfl, rfl⟩) (fun _ => rfl) ?_)
          try simp only [Act.put, List.setIfInBounds_toArray, List.set_cons_zero, List.set_cons_succ]
          refine ordS_one (i := 9) (o := { dst := some 56, op := Op.call { callee := Callee.value (Operand.func 18), args := #[Operand.tmp 51, Operand.tmp 55], argTypes := #[23, 37] }, type := 4, pos := _, after := #[{ on := 4, ground := Ground.data }, { on := 8, ground := Ground.data }, { on := 2, ground := Ground.chain }, { on := 2, ground := Ground.guard }], guard := some (2, true) }) (by kernel_rfl) rfl (by rfl) (fun K hK => ?_)
          go_simp
          refine ⟨trivial, ?_⟩
          with_reducible refine (callsIn_wide.2 (rin_any A B x y _)).mono ?_
          rintro e w8 ⟨rfl, hb8⟩
          have hb8' := bl_tr hD hb8
          have hS8 : (fun w' : World => w'.cell? ⟨gz, oz + k * 2, none⟩ = some (.int .i64 x) ∧ w'.cell? ⟨gz, oz + k * 2 + 1, none⟩ = some (.int .i64 y) ∧ w'.cell? ⟨w.heap.size, 0, none⟩ = some (.int .i64 A) ∧ w'.cell? ⟨w.heap.size, 1, none⟩ = some (.int .i64 B)) w8 := ⟨cell_later hb8' p0, cell_later hb8' p1, cell_later hb8' f0, cell_later hb8' f1⟩
          have HB8 := Lib.hid (bl_tr hB hb8')
          refine hK _ _ hS8 ?_
          clear hK K hH hb8 hb8' hB p0 p1 f0 f1
          try simp only [Act.put, List.setIfInBounds_toArray, List.set_cons_zero, List.set_cons_succ]
          cases hi : inB A B x y
          · rw [hi] at HNX
            first
              | (refine' ordS_take (i := 10) (oi := { dst := some 57, op := Op.unOp UnOp.not 4 (Operand.tmp 56), type := 4, pos := _, after := #[{ on := 9, ground := Ground.data }, { on := 2, ground := Ground.guard }], guard := some (2, true) }) (v := _) rfl (by kernel_rfl) (by kernel_rfl) (by kernel_rfl) (by kernel_rfl) (fun _ _ _ h => h) (by assumption) (Or.inl ⟨by rfl, ?hy82⟩) (fun _ => rfl) ?rest82
                 case hy82 => (intro w hSw; (try dsimp only at hSw); go_simp; try with_reducible rfl))
              | (refine ordS_take (i := 10) (oi := { dst := some 57, op := Op.unOp UnOp.not 4 (Operand.tmp 56), type := 4, pos := _, after := #[{ on := 9, ground := Ground.data }, { on := 2, ground := Ground.guard }], guard := some (2, true) }) (v := undef) rfl (by kernel_rfl) (by kernel_rfl) (by kernel_rfl) (by kernel_rfl) (fun _ _ _ h => h) (by assumption) (Or.inr ⟨by rfl, rfl⟩) (fun _ => rfl) ?_)
            try simp only [Act.put, List.setIfInBounds_toArray, List.set_cons_zero, List.set_cons_succ]
            first
              | (refine' ordS_take (i := 11) (oi := { dst := some 58, op := Op.pick (Operand.tmp 49) (Operand.tmp 57) (Operand.const (Value.bool false)), type := 4, pos := _, after := #[{ on := 2, ground := Ground.data }, { on := 10, ground := Ground.data }], guard := none }) (v := _) rfl (by kernel_rfl) (by kernel_rfl) (by kernel_rfl) (by kernel_rfl) (fun _ _ _ h => h) (by assumption) (Or.inl ⟨by rfl, ?hy83⟩) (fun _ => rfl) ?rest83
                 case hy83 => (intro w hSw; (try dsimp only at hSw); go_simp; try with_reducible rfl))
              | (refine ordS_take (i := 11) (oi := { dst := some 58, op := Op.pick (Operand.tmp 49) (Operand.tmp 57) (Operand.const (Value.bool false)), type := 4, pos := _, after := #[{ on := 2, ground := Ground.data }, { on := 10, ground := Ground.data }], guard := none }) (v := undef) rfl (by kernel_rfl) (by kernel_rfl) (by kernel_rfl) (by kernel_rfl) (fun _ _ _ h => h) (by assumption) (Or.inr ⟨by rfl, rfl⟩) (fun _ => rfl) ?_)
            try simp only [Act.put, List.setIfInBounds_toArray, List.set_cons_zero, List.set_cons_succ]
            refine ordS_done (by kernel_rfl) ?_
            clear hS8 hi
            go_wp2
            go_roundw
            case rel => exact ⟨k + 1, by omega, by go_num, by rw [HNX.out]; rfl, HB8.out⟩
            case measure => simp [intOf]; omega
          · rw [hi] at HNX
            first
              | (refine' ordS_take (i := 10) (oi := { dst := some 57, op := Op.unOp UnOp.not 4 (Operand.tmp 56), type := 4, pos := _, after := #[{ on := 9, ground := Ground.data }, { on := 2, ground := Ground.guard }], guard := some (2, true) }) (v := _) rfl (by kernel_rfl) (by kernel_rfl) (by kernel_rfl) (by kernel_rfl) (fun _ _ _ h => h) (by assumption) (Or.inl ⟨by rfl, ?hy84⟩) (fun _ => rfl) ?rest84
                 case hy84 => (intro w hSw; (try dsimp only at hSw); go_simp; try with_reducible rfl))
              | (refine ordS_take (i := 10) (oi := { dst := some 57, op := Op.unOp UnOp.not 4 (Operand.tmp 56), type := 4, pos := _, after := #[{ on := 9, ground := Ground.data }, { on := 2, ground := Ground.guard }], guard := some (2, true) }) (v := undef) rfl (by kernel_rfl) (by kernel_rfl) (by kernel_rfl) (by kernel_rfl) (fun _ _ _ h => h) (by assumption) (Or.inr ⟨by rfl, rfl⟩) (fun _ => rfl) ?_)
            try simp only [Act.put, List.setIfInBounds_toArray, List.set_cons_zero, List.set_cons_succ]
            first
              | (refine' ordS_take (i := 11) (oi := { dst := some 58, op := Op.pick (Operand.tmp 49) (Operand.tmp 57) (Operand.const (Value.bool false)), type := 4, pos := _, after := #[{ on := 2, ground := Ground.data }, { on := 10, ground := Ground.data }], guard := none }) (v := _) rfl (by kernel_rfl) (by kernel_rfl) (by kernel_rfl) (by kernel_rfl) (fun _ _ _ h => h) (by assumption) (Or.inl ⟨by rfl, ?hy85⟩) (fun _ => rfl) ?rest85
                 case hy85 => (intro w hSw; (try dsimp only at hSw); go_simp; try with_reducible rfl))
              | (refine ordS_take (i := 11) (oi := { dst := some 58, op := Op.pick (Operand.tmp 49) (Operand.tmp 57) (Operand.const (Value.bool false)), type := 4, pos := _, after := #[{ on := 2, ground := Ground.data }, { on := 10, ground := Ground.data }], guard := none }) (v := undef) rfl (by kernel_rfl) (by kernel_rfl) (by kernel_rfl) (by kernel_rfl) (fun _ _ _ h => h) (by assumption) (Or.inr ⟨by rfl, rfl⟩) (fun _ => rfl) ?_)
            try simp only [Act.put, List.setIfInBounds_toArray, List.set_cons_zero, List.set_cons_succ]
            refine ordS_done (by kernel_rfl) ?_
            clear hS8 hi
            go_wp2
            go_roundw
            case rel => exact ⟨k + 1, by omega, by go_num, by rw [HNX.out]; rfl, HB8.out⟩
            case measure => simp [intOf]; omega
        · have hk2 := HKEEP.out hq0
          have HK2 := Lib.hid hk2
          have be : (q == 0) = false := beq_eq_false_iff_ne.2 hq0
          clear hk2 hq0
          go_upto_region 10 with fail
          refine (wpIn_wide (n := 11)).1 ?_
          refine ordS_begin (S := (fun w' : World => w'.cell? ⟨gz, oz + k * 2, none⟩ = some (.int .i64 x) ∧ w'.cell? ⟨gz, oz + k * 2 + 1, none⟩ = some (.int .i64 y) ∧ w'.cell? ⟨w.heap.size, 0, none⟩ = some (.int .i64 A) ∧ w'.cell? ⟨w.heap.size, 1, none⟩ = some (.int .i64 B))) (by kernel_rfl) ⟨cell_later hD p0, cell_later hD p1, cell_later hD f0, cell_later hD f1⟩ (fun hH => ?_)
          first
            | (refine' ordS_take (i := 0) (oi := { dst := some 47, op := Op.move (Operand.tmp 9), type := 31, pos := _, after := #[], guard := none }) (v := _) rfl (by kernel_rfl) (by kernel_rfl) (by kernel_rfl) (by kernel_rfl) (fun _ _ _ h => h) (by assumption) (Or.inl ⟨by rfl, ?hy86⟩) (fun _ => rfl) ?rest86
               case hy86 => (intro w hSw; (try dsimp only at hSw); go_simp; try with_reducible rfl))
            | (refine ordS_take (i := 0) (oi := { dst := some 47, op := Op.move (Operand.tmp 9), type := 31, pos := _, after := #[], guard := none }) (v := undef) rfl (by kernel_rfl) (by kernel_rfl) (by kernel_rfl) (by kernel_rfl) (fun _ _ _ h => h) (by assumption) (Or.inr ⟨by rfl, rfl⟩) (fun _ => rfl) ?_)
          try simp only [Act.put, List.setIfInBounds_toArray, List.set_cons_zero, List.set_cons_succ]
          first
            | (refine' ordS_take (i := 1) (oi := { dst := some 48, op := Op.binOp BinOp.eql 31 (Operand.tmp 47) (Operand.const (Value.int IntKind.i64 0)) 31, type := 4, pos := _, after := #[{ on := 0, ground := Ground.data }], guard := none }) (v := _) rfl (by kernel_rfl) (by kernel_rfl) (by kernel_rfl) (by kernel_rfl) (fun _ _ _ h => h) (by assumption) (Or.inl ⟨by rfl, ?hy87⟩) (fun _ => rfl) ?rest87
               case hy87 => (intro w hSw; (try dsimp only at hSw); go_simp; try with_reducible rfl))
            | (refine ordS_take (i := 1) (oi := { dst := some 48, op := Op.binOp BinOp.eql 31 (Operand.tmp 47) (Operand.const (Value.int IntKind.i64 0)) 31, type := 4, pos := _, after := #[{ on := 0, ground := Ground.data }], guard := none }) (v := undef) rfl (by kernel_rfl) (by kernel_rfl) (by kernel_rfl) (by kernel_rfl) (fun _ _ _ h => h) (by assumption) (Or.inr ⟨by rfl, rfl⟩) (fun _ => rfl) ?_)
          try simp only [Act.put, List.setIfInBounds_toArray, List.set_cons_zero, List.set_cons_succ]
          first
            | (refine' ordS_take (i := 2) (oi := { dst := some 49, op := Op.move (Operand.tmp 48), type := 4, pos := _, after := #[{ on := 1, ground := Ground.data }], guard := none }) (v := _) rfl (by kernel_rfl) (by kernel_rfl) (by kernel_rfl) (by kernel_rfl) (fun _ _ _ h => h) (by assumption) (Or.inl ⟨by rfl, ?hy88⟩) (fun _ => rfl) ?rest88
               case hy88 => (intro w hSw; (try dsimp only at hSw); go_simp; try with_reducible rfl))
            | (refine ordS_take (i := 2) (oi := { dst := some 49, op := Op.move (Operand.tmp 48), type := 4, pos := _, after := #[{ on := 1, ground := Ground.data }], guard := none }) (v := undef) rfl (by kernel_rfl) (by kernel_rfl) (by kernel_rfl) (by kernel_rfl) (fun _ _ _ h => h) (by assumption) (Or.inr ⟨by rfl, rfl⟩) (fun _ => rfl) ?_)
          try simp only [Act.put, List.setIfInBounds_toArray, List.set_cons_zero, List.set_cons_succ]
          first
            | (refine' ordS_take (i := 3) (oi := { dst := some 50, op := Op.fieldAddr 26 (Operand.tmp 3) 0, type := 0, pos := _, after := #[{ on := 2, ground := Ground.guard }], guard := some (2, true) }) (v := _) rfl (by kernel_rfl) (by kernel_rfl) (by kernel_rfl) (by kernel_rfl) (fun _ _ _ h => h) (by assumption) (Or.inl ⟨by rfl, ?hy89⟩) (fun _ => rfl) ?rest89
               case hy89 => (intro w hSw; (try dsimp only at hSw); go_simp; try with_reducible rfl))
            | (refine ordS_take (i := 3) (oi := { dst := some 50, op := Op.fieldAddr 26 (Operand.tmp 3) 0, type := 0, pos := _, after := #[{ on := 2, ground := Ground.guard }], guard := some (2, true) }) (v := undef) rfl (by kernel_rfl) (by kernel_rfl) (by kernel_rfl) (by kernel_rfl) (fun _ _ _ h => h) (by assumption) (Or.inr ⟨by rfl, rfl⟩) (fun _ => rfl) ?_)
          try simp only [Act.put, List.setIfInBounds_toArray, List.set_cons_zero, List.set_cons_succ]
          first
            | (refine' ordS_take (i := 4) (oi := { dst := some 51, op := Op.load 23 (Operand.tmp 50), type := 23, pos := _, after := #[{ on := 3, ground := Ground.data }, { on := 2, ground := Ground.guard }], guard := some (2, true) }) (v := _) rfl (by kernel_rfl) (by kernel_rfl) (by kernel_rfl) (by kernel_rfl) (fun _ _ _ h => h) (by assumption) (Or.inl ⟨by rfl, ?hy90⟩) (fun _ => rfl) ?rest90
               case hy90 => (intro w hSw; (try dsimp only at hSw); go_simp; try with_reducible rfl))
            | (refine ordS_take (i := 4) (oi := { dst := some 51, op := Op.load 23 (Operand.tmp 50), type := 23, pos := _, after := #[{ on := 3, ground := Ground.data }, { on := 2, ground := Ground.guard }], guard := some (2, true) }) (v := undef) rfl (by kernel_rfl) (by kernel_rfl) (by kernel_rfl) (by kernel_rfl) (fun _ _ _ h => h) (by assumption) (Or.inr ⟨by rfl, rfl⟩) (fun _ => rfl) ?_)
          try simp only [Act.put, List.setIfInBounds_toArray, List.set_cons_zero, List.set_cons_succ]
          first
            | (refine' ordS_take (i := 5) (oi := { dst := some 52, op := Op.move (Operand.tmp 1), type := 27, pos := _, after := #[{ on := 2, ground := Ground.guard }], guard := some (2, true) }) (v := _) rfl (by kernel_rfl) (by kernel_rfl) (by kernel_rfl) (by kernel_rfl) (fun _ _ _ h => h) (by assumption) (Or.inl ⟨by rfl, ?hy91⟩) (fun _ => rfl) ?rest91
               case hy91 => (intro w hSw; (try dsimp only at hSw); go_simp; try with_reducible rfl))
            | (refine ordS_take (i := 5) (oi := { dst := some 52, op := Op.move (Operand.tmp 1), type := 27, pos := _, after := #[{ on := 2, ground := Ground.guard }], guard := some (2, true) }) (v := undef) rfl (by kernel_rfl) (by kernel_rfl) (by kernel_rfl) (by kernel_rfl) (fun _ _ _ h => h) (by assumption) (Or.inr ⟨by rfl, rfl⟩) (fun _ => rfl) ?_)
          try simp only [Act.put, List.setIfInBounds_toArray, List.set_cons_zero, List.set_cons_succ]
          first
            | (refine' ordS_take (i := 6) (oi := { dst := some 53, op := Op.move (Operand.tmp 10), type := 3, pos := _, after := #[{ on := 2, ground := Ground.guard }], guard := some (2, true) }) (v := _) rfl (by kernel_rfl) (by kernel_rfl) (by kernel_rfl) (by kernel_rfl) (fun _ _ _ h => h) (by assumption) (Or.inl ⟨by rfl, ?hy92⟩) (fun _ => rfl) ?rest92
               case hy92 => (intro w hSw; (try dsimp only at hSw); go_simp; try with_reducible rfl))
            | (refine ordS_take (i := 6) (oi := { dst := some 53, op := Op.move (Operand.tmp 10), type := 3, pos := _, after := #[{ on := 2, ground := Ground.guard }], guard := some (2, true) }) (v := undef) rfl (by kernel_rfl) (by kernel_rfl) (by kernel_rfl) (by kernel_rfl) (fun _ _ _ h => h) (by assumption) (Or.inr ⟨by rfl, rfl⟩) (fun _ => rfl) ?_)
          try simp only [Act.put, List.setIfInBounds_toArray, List.set_cons_zero, List.set_cons_succ]
          first
            | (refine' ordS_take (i := 7) (oi := { dst := some 54, op := Op.indexAddr 27 (Operand.tmp 52) (Operand.tmp 53), type := 0, pos := _, after := #[{ on := 5, ground := Ground.data }, { on := 6, ground := Ground.data }, { on := 2, ground := Ground.guard }], guard := some (2, true) }) (v := _) rfl (by kernel_rfl) (by kernel_rfl) (by kernel_rfl) (by kernel_rfl) (fun _ _ _ h => h) (by assumption) (Or.inl ⟨by rfl, ?hy93⟩) (fun _ => rfl) ?rest93
               case hy93 => (intro w hSw; (try dsimp only at hSw); go_simp; try with_reducible rfl))
            | (refine ordS_take (i := 7) (oi := { dst := some 54, op := Op.indexAddr 27 (Operand.tmp 52) (Operand.tmp 53), type := 0, pos := _, after := #[{ on := 5, ground := Ground.data }, { on := 6, ground := Ground.data }, { on := 2, ground := Ground.guard }], guard := some (2, true) }) (v := undef) rfl (by kernel_rfl) (by kernel_rfl) (by kernel_rfl) (by kernel_rfl) (fun _ _ _ h => h) (by assumption) (Or.inr ⟨by rfl, rfl⟩) (fun _ => rfl) ?_)
          try simp only [Act.put, List.setIfInBounds_toArray, List.set_cons_zero, List.set_cons_succ]
          first
            | (refine' ordS_take (i := 8) (oi := { dst := some 55, op := Op.load 37 (Operand.tmp 54), type := 37, pos := _, after := #[{ on := 7, ground := Ground.data }, { on := 2, ground := Ground.guard }], guard := some (2, true) }) (v := _) rfl (by kernel_rfl) (by kernel_rfl) (by kernel_rfl) (by kernel_rfl) (fun _ _ _ h => h) (by assumption) (Or.inl ⟨by rfl, ?hy94⟩) (fun _ => rfl) ?rest94
               case hy94 => (intro w hSw; (try dsimp only at hSw); go_simp; try with_reducible rfl))
            | (refine ordS_take (i := 8) (oi := { dst := some 55, op := Op.load 37 (Operand.tmp 54), type := 37, pos := _, after := #[{ on := 7, ground := Ground.data }, { on := 2, ground := Ground.guard }], guard := some (2, true) }) (v := undef) rfl (by kernel_rfl) (by kernel_rfl) (by kernel_rfl) (by kernel_rfl) (fun _ _ _ h => h) (by assumption) (Or.inr ⟨by rfl, rfl⟩) (fun _ => rfl) ?_)
          try simp only [Act.put, List.setIfInBounds_toArray, List.set_cons_zero, List.set_cons_succ]
          refine ordS_skip (i := 9) (o := { dst := some 56, op := Op.call { callee := Callee.value (Operand.func 18), args := #[Operand.tmp 51, Operand.tmp 55], argTypes := #[23, 37] }, type := 4, pos := _, after := #[{ on := 4, ground := Ground.data }, { on := 8, ground := Ground.data }, { on := 2, ground := Ground.chain }, { on := 2, ground := Ground.guard }], guard := some (2, true) }) (by kernel_rfl) rfl (by rfl) (fun _ => trivial) hH ?_
          try simp only [Act.put, List.setIfInBounds_toArray, List.set_cons_zero, List.set_cons_succ]
          first
            | (refine' ordS_take (i := 10) (oi := { dst := some 57, op := Op.unOp UnOp.not 4 (Operand.tmp 56), type := 4, pos := _, after := #[{ on := 9, ground := Ground.data }, { on := 2, ground := Ground.guard }], guard := some (2, true) }) (v := _) rfl (by kernel_rfl) (by kernel_rfl) (by kernel_rfl) (by kernel_rfl) (fun _ _ _ h => h) (by assumption) (Or.inl ⟨by rfl, ?hy95⟩) (fun _ => rfl) ?rest95
               case hy95 => (intro w hSw; (try dsimp only at hSw); go_simp; try with_reducible rfl))
            | (refine ordS_take (i := 10) (oi := { dst := some 57, op := Op.unOp UnOp.not 4 (Operand.tmp 56), type := 4, pos := _, after := #[{ on := 9, ground := Ground.data }, { on := 2, ground := Ground.guard }], guard := some (2, true) }) (v := undef) rfl (by kernel_rfl) (by kernel_rfl) (by kernel_rfl) (by kernel_rfl) (fun _ _ _ h => h) (by assumption) (Or.inr ⟨by rfl, rfl⟩) (fun _ => rfl) ?_)
          try simp only [Act.put, List.setIfInBounds_toArray, List.set_cons_zero, List.set_cons_succ]
          first
            | (refine' ordS_take (i := 11) (oi := { dst := some 58, op := Op.pick (Operand.tmp 49) (Operand.tmp 57) (Operand.const (Value.bool false)), type := 4, pos := _, after := #[{ on := 2, ground := Ground.data }, { on := 10, ground := Ground.data }], guard := none }) (v := _) rfl (by kernel_rfl) (by kernel_rfl) (by kernel_rfl) (by kernel_rfl) (fun _ _ _ h => h) (by assumption) (Or.inl ⟨by rfl, ?hy96⟩) (fun _ => rfl) ?rest96
               case hy96 => (intro w hSw; (try dsimp only at hSw); go_simp; try with_reducible rfl))
            | (refine ordS_take (i := 11) (oi := { dst := some 58, op := Op.pick (Operand.tmp 49) (Operand.tmp 57) (Operand.const (Value.bool false)), type := 4, pos := _, after := #[{ on := 2, ground := Ground.data }, { on := 10, ground := Ground.data }], guard := none }) (v := undef) rfl (by kernel_rfl) (by kernel_rfl) (by kernel_rfl) (by kernel_rfl) (fun _ _ _ h => h) (by assumption) (Or.inr ⟨by rfl, rfl⟩) (fun _ => rfl) ?_)
          try simp only [Act.put, List.setIfInBounds_toArray, List.set_cons_zero, List.set_cons_succ]
          refine ordS_done (by kernel_rfl) ?_
          have HB8 := Lib.hid (bl_tr hB hD)
          clear hH hB hD p0 p1 f0 f1
          go_wp2
          go_roundw
          case rel => exact ⟨k + 1, by omega, by go_num, by rw [HK2.out], HB8.out⟩
          case measure => simp [intOf]; omega
      · obtain rfl : k = zs.length := by omega
        rw [want_all]
        rw [HQ1.out]
        have hA4 := bl_tr hA hB
        clear hB
        go_wp2_with fail
        refine (awake_any _).mono ?_
        rintro e w9 ⟨rfl, hb9⟩
        have hA9 := bl_tr hA4 hb9
        clear hb9 hA4
        go_wp2
        go_ret
        exact ⟨rfl, hA9⟩

set_option maxRecDepth 100000 in
set_option maxHeartbeats 16000000 in
theorem sees_ok (A B r : Int) (a a2 : Option Addr) (c c2 : Nat) (fs : List Int) (zs : List (Int × Int)) (w : World) (hr : RowH w a fs) (hu : AllH fs) (hz : RowC w a2 zs) (h1 : smallB A B fs.length = true) (hl : zs.length ≤ 6) (he : errA A B fs.length r zs = 0) :
    Calls Try.prog 3 #[.agg #[.int .i64 A, .int .i64 B, .slice a fs.length c], .slice a2 zs.length c2, .int .i64 r] w fun e w' => e = .returned (.bool true) ∧ Below w.heap.size w w' := by
  have hA := bl0 w
  obtain ⟨hck, h0, h16, hin⟩ := errA_ok he
  obtain ⟨hmay, harea⟩ := chk_ok hck
  have H1 := Lib.hid h1
  have HE := Lib.hid he
  have HI := Lib.hid hin
  have HAREA := Lib.hid harea
  have HCK := Lib.hid hck
  have hl2 : (zs.length : Int) ≤ 6 := by omega
  have e1 : ¬ r < 0 := by omega
  have e2 : ¬ 16 < r := by omega
  have hgood := allB_good (r := r) (fs := fs) hmay hin
  obtain ⟨ms, hms⟩ : ∃ ms, allB A B fs r zs = ms := ⟨_, rfl⟩
  rw [hms] at hgood
  have HMS := Lib.hid hms
  have hw00 : wantK A B (want0 A B fs.length r) zs 0 = 0 := by
    have e0 : want0 A B fs.length r = 0 := by unfold want0; rw [if_neg (fun e => e hck), if_neg (by omega)]
    rw [e0]
    unfold wantK
    rw [if_neg (fun e => e rfl), if_pos (by simp)]
  have HW0 := Lib.hid hw00
  clear h1 he hms hw00 hck harea hin
  go_enter Try.func3, Try.ntmps3
  go_wp2_with fail
  refine (small_any _ _ _ _ _ _).mono ?_
  rintro e w1 ⟨rfl, hb⟩
  have hk : Below w.heap.size w w1 := by first | exact hb | exact bl_tr (bl_al (bl0 _) _) hb | exact bl_tr (bl_dr (bl_al (bl0 _) _)) hb | exact bl_tr (bl_al (bl_al (bl0 _) _) _) hb | exact bl_tr (bl_dr (bl_al (bl_al (bl0 _) _) _)) hb | exact bl_tr (bl_al (bl_al (bl_al (bl0 _) _) _) _) hb | exact bl_tr (bl_dr (bl_al (bl_al (bl_al (bl0 _) _) _) _)) hb | exact bl_tr (bl_al (bl_al (bl_al (bl_al (bl0 _) _) _) _) _) hb | exact bl_tr (bl_dr (bl_al (bl_al (bl_al (bl_al (bl0 _) _) _) _) _)) hb | exact bl_tr (bl_al (bl_al (bl_al (bl_al (bl_al (bl0 _) _) _) _) _) _) hb | exact bl_tr (bl_dr (bl_al (bl_al (bl_al (bl_al (bl_al (bl0 _) _) _) _) _) _)) hb | exact bl_tr (bl_al (bl_al (bl_al (bl_al (bl_al (bl_al (bl0 _) _) _) _) _) _) _) hb | exact bl_tr (bl_dr (bl_al (bl_al (bl_al (bl_al (bl_al (bl_al (bl0 _) _) _) _) _) _) _)) hb | exact bl_tr (bl_dr (bl0 _)) hb
  replace hA := bl_tr hA hk
  have f0 := cell_later hb (v := .int .i64 A) (a := ⟨w.heap.size, 0, none⟩) (by simp [go_sem])
  have f1 := cell_later hb (v := .int .i64 B) (a := ⟨w.heap.size, 1, none⟩) (by simp [go_sem])
  have f2 := cell_later hb (v := .slice a fs.length c) (a := ⟨w.heap.size, 2, none⟩) (by simp [go_sem])
  clear hb hk
  have zf0 := blk_lt f0
  have zf1 := blk_lt f1
  have zf2 := blk_lt f2
  rw [H1.out]
  go_wp2_with fail
  refine (sall_yes A B r a a2 c c2 fs zs _ (hr.below hA) (hz.below hA) (by omega) HE.out).mono ?_
  rintro e w2 ⟨b1, q1, rfl, hm, hb1, hq1, hbq1, hb⟩
  have hk : Below w1.heap.size w1 w2 := by first | exact hb | exact bl_tr (bl_al (bl0 _) _) hb | exact bl_tr (bl_dr (bl_al (bl0 _) _)) hb | exact bl_tr (bl_al (bl_al (bl0 _) _) _) hb | exact bl_tr (bl_dr (bl_al (bl_al (bl0 _) _) _)) hb | exact bl_tr (bl_al (bl_al (bl_al (bl0 _) _) _) _) hb | exact bl_tr (bl_dr (bl_al (bl_al (bl_al (bl0 _) _) _) _)) hb | exact bl_tr (bl_al (bl_al (bl_al (bl_al (bl0 _) _) _) _) _) hb | exact bl_tr (bl_dr (bl_al (bl_al (bl_al (bl_al (bl0 _) _) _) _) _)) hb | exact bl_tr (bl_al (bl_al (bl_al (bl_al (bl_al (bl0 _) _) _) _) _) _) hb | exact bl_tr (bl_dr (bl_al (bl_al (bl_al (bl_al (bl_al (bl0 _) _) _) _) _) _)) hb | exact bl_tr (bl_al (bl_al (bl_al (bl_al (bl_al (bl_al (bl0 _) _) _) _) _) _) _) hb | exact bl_tr (bl_dr (bl_al (bl_al (bl_al (bl_al (bl_al (bl_al (bl0 _) _) _) _) _) _) _)) hb | exact bl_tr (bl_dr (bl0 _)) hb
  replace hA := bl_tr hA hk
  replace f0 := cell_later hk f0
  replace f1 := cell_later hk f1
  replace f2 := cell_later hk f2
  clear hb hk
  have zf0 := blk_lt f0
  have zf1 := blk_lt f1
  have zf2 := blk_lt f2
  rw [HMS.out] at hm
  go_wp2_with fail
  refine (rcheck_any _ _ _ _ _ _).mono ?_
  rintro e w3 ⟨rfl, hb⟩
  have hk : Below w2.heap.size w2 w3 := by first | exact hb | exact bl_tr (bl_al (bl0 _) _) hb | exact bl_tr (bl_dr (bl_al (bl0 _) _)) hb | exact bl_tr (bl_al (bl_al (bl0 _) _) _) hb | exact bl_tr (bl_dr (bl_al (bl_al (bl0 _) _) _)) hb | exact bl_tr (bl_al (bl_al (bl_al (bl0 _) _) _) _) hb | exact bl_tr (bl_dr (bl_al (bl_al (bl_al (bl0 _) _) _) _)) hb | exact bl_tr (bl_al (bl_al (bl_al (bl_al (bl0 _) _) _) _) _) hb | exact bl_tr (bl_dr (bl_al (bl_al (bl_al (bl_al (bl0 _) _) _) _) _)) hb | exact bl_tr (bl_al (bl_al (bl_al (bl_al (bl_al (bl0 _) _) _) _) _) _) hb | exact bl_tr (bl_dr (bl_al (bl_al (bl_al (bl_al (bl_al (bl0 _) _) _) _) _) _)) hb | exact bl_tr (bl_al (bl_al (bl_al (bl_al (bl_al (bl_al (bl0 _) _) _) _) _) _) _) hb | exact bl_tr (bl_dr (bl_al (bl_al (bl_al (bl_al (bl_al (bl_al (bl0 _) _) _) _) _) _) _)) hb | exact bl_tr (bl_dr (bl0 _)) hb
  replace hA := bl_tr hA hk
  replace hm := hm.below hk
  replace f0 := cell_later hk f0
  replace f1 := cell_later hk f1
  replace f2 := cell_later hk f2
  clear hb hk
  have zf0 := blk_lt f0
  have zf1 := blk_lt f1
  have zf2 := blk_lt f2
  rw [HCK.out]
  have hz3 := hz.below hA
  have F0 := Lib.hid f0
  have F1 := Lib.hid f1
  have F2 := Lib.hid f2
  have hzf := blk_lt f0
  go_wp2_with fail
  clear f0 f1 f2
  go_loopw [9, 10] (fun v i wr => ∃ k : Nat, k ≤ zs.length ∧ i = .int .i64 k ∧ v = .int .i64 (wantK A B (want0 A B fs.length r) zs k) ∧ Below w3.heap.size w3 wr) (fun _ i _ => zs.length - (intOf i).toNat)
  case atStart => exact ⟨0, Nat.zero_le _, rfl, by rw [HW0.out], bl0 _⟩
  case round =>
    obtain ⟨k, hk, rfl, rfl, hB⟩ := hrel
    have hk0 : (0 : Int) ≤ (k : Int) := by omega
    by_cases hlt : k < zs.length
    · have hlt2 : (k : Int) < (zs.length : Int) := by omega
      obtain ⟨gz, oz, rfl, p0, p1⟩ := hz3.cell hlt
      replace p0 := cell_later hB p0
      replace p1 := cell_later hB p1
      have f0 := cell_later hB F0.out
      have f1 := cell_later hB F1.out
      obtain ⟨x, hx⟩ : ∃ x, zs[k].1 = x := ⟨_, rfl⟩
      obtain ⟨y, hy⟩ : ∃ y, zs[k].2 = y := ⟨_, rfl⟩
      have HKEEP := Lib.hid (wantK_keep (A := A) (B := B) (e0 := want0 A B fs.length r) (zs := zs) (k := k))
      have HNEXT := Lib.hid (wantK_next (A := A) (B := B) (e0 := want0 A B fs.length r) (zs := zs) (k := k) hlt)
      rw [hx] at p0 HNEXT
      rw [hy] at p1 HNEXT
      obtain ⟨q, hq⟩ : ∃ q, wantK A B (want0 A B fs.length r) zs k = q := ⟨_, rfl⟩
      rw [hq] at HKEEP HNEXT
      rw [hq]
      clear hx hy hq
      have hD := bl_dr (bl0 wr)
      by_cases hq0 : q = 0
      · subst hq0
        have hnx := HNEXT.out rfl
        have HNX := Lib.hid hnx
        clear hnx
        go_upto_region 10 with fail
        refine (wpIn_wide (n := 11)).1 ?_
        refine ordS_begin (S := (fun w' : World => w'.cell? ⟨gz, oz + k * 2, none⟩ = some (.int .i64 x) ∧ w'.cell? ⟨gz, oz + k * 2 + 1, none⟩ = some (.int .i64 y) ∧ w'.cell? ⟨w.heap.size, 0, none⟩ = some (.int .i64 A) ∧ w'.cell? ⟨w.heap.size, 1, none⟩ = some (.int .i64 B))) (by kernel_rfl) ⟨cell_later hD p0, cell_later hD p1, cell_later hD f0, cell_later hD f1⟩ (fun hH => ?_)
        first
          | (refine' ordS_take (i := 0) (oi := { dst := some 47, op := Op.move (Operand.tmp 9), type := 31, pos := _, after := #[], guard := none }) (v := _) rfl (by kernel_rfl) (by kernel_rfl) (by kernel_rfl) (by kernel_rfl) (fun _ _ _ h => h) (by assumption) (Or.inl ⟨by rfl, ?hy97⟩) (fun _ => rfl) ?rest97
             case hy97 => (intro w hSw; (try dsimp only at hSw); go_simp; try with_reducible rfl))
          | (refine ordS_take (i := 0) (oi := { dst := some 47, op := Op.move (Operand.tmp 9), type := 31, pos := _, after := #[], guard := none }) (v := undef) rfl (by kernel_rfl) (by kernel_rfl) (by kernel_rfl) (by kernel_rfl) (fun _ _ _ h => h) (by assumption) (Or.inr ⟨by rfl, rfl⟩) (fun _ => rfl) ?_)
        try simp only [Act.put, List.setIfInBounds_toArray, List.set_cons_zero, List.set_cons_succ]
        first
          | (refine' ordS_take (i := 1) (oi := { dst := some 48, op := Op.binOp BinOp.eql 31 (Operand.tmp 47) (Operand.const (Value.int IntKind.i64 0)) 31, type := 4, pos := _, after := #[{ on := 0, ground := Ground.data }], guard := none }) (v := _) rfl (by kernel_rfl) (by kernel_rfl) (by kernel_rfl) (by kernel_rfl) (fun _ _ _ h => h) (by assumption) (Or.inl ⟨by rfl, ?hy98⟩) (fun _ => rfl) ?rest98
             case hy98 => (intro w hSw; (try dsimp only at hSw); go_simp; try with_reducible rfl))
          | (refine ordS_take (i := 1) (oi := { dst := some 48, op := Op.binOp BinOp.eql 31 (Operand.tmp 47) (Operand.const (Value.int IntKind.i64 0)) 31, type := 4, pos := _, after := #[{ on := 0, ground := Ground.data }], guard := none }) (v := undef) rfl (by kernel_rfl) (by kernel_rfl) (by kernel_rfl) (by kernel_rfl) (fun _ _ _ h => h) (by assumption) (Or.inr ⟨by rfl, rfl⟩) (fun _ => rfl) ?_)
        try simp only [Act.put, List.setIfInBounds_toArray, List.set_cons_zero, List.set_cons_succ]
        first
          | (refine' ordS_take (i := 2) (oi := { dst := some 49, op := Op.move (Operand.tmp 48), type := 4, pos := _, after := #[{ on := 1, ground := Ground.data }], guard := none }) (v := _) rfl (by kernel_rfl) (by kernel_rfl) (by kernel_rfl) (by kernel_rfl) (fun _ _ _ h => h) (by assumption) (Or.inl ⟨by rfl, ?hy99⟩) (fun _ => rfl) ?rest99
             case hy99 => (intro w hSw; (try dsimp only at hSw); go_simp; try with_reducible rfl))
          | (refine ordS_take (i := 2) (oi := { dst := some 49, op := Op.move (Operand.tmp 48), type := 4, pos := _, after := #[{ on := 1, ground := Ground.data }], guard := none }) (v := undef) rfl (by kernel_rfl) (by kernel_rfl) (by kernel_rfl) (by kernel_rfl) (fun _ _ _ h => h) (by assumption) (Or.inr ⟨by rfl, rfl⟩) (fun _ => rfl) ?_)
        try simp only [Act.put, List.setIfInBounds_toArray, List.set_cons_zero, List.set_cons_succ]
        first
          | (refine' ordS_take (i := 3) (oi := { dst := some 50, op := Op.fieldAddr 26 (Operand.tmp 3) 0, type := 0, pos := _, after := #[{ on := 2, ground := Ground.guard }], guard := some (2, true) }) (v := _) rfl (by kernel_rfl) (by kernel_rfl) (by kernel_rfl) (by kernel_rfl) (fun _ _ _ h => h) (by assumption) (Or.inl ⟨by rfl, ?hy100⟩) (fun _ => rfl) ?rest100
             case hy100 => (intro w hSw; (try dsimp only at hSw); go_simp; try with_reducible rfl))
          | (refine ordS_take (i := 3) (oi := { dst := some 50, op := Op.fieldAddr 26 (Operand.tmp 3) 0, type := 0, pos := _, after := #[{ on := 2, ground := Ground.guard }], guard := some (2, true) }) (v := undef) rfl (by kernel_rfl) (by kernel_rfl) (by kernel_rfl) (by kernel_rfl) (fun _ _ _ h => h) (by assumption) (Or.inr ⟨by rfl, rfl⟩) (fun _ => rfl) ?_)
        try simp only [Act.put, List.setIfInBounds_toArray, List.set_cons_zero, List.set_cons_succ]
        first
          | (refine' ordS_take (i := 4) (oi := { dst := some 51, op := Op.load 23 (Operand.tmp 50), type := 23, pos := _, after := #[{ on := 3, ground := Ground.data }, { on := 2, ground := Ground.guard }], guard := some (2, true) }) (v := _) rfl (by kernel_rfl) (by kernel_rfl) (by kernel_rfl) (by kernel_rfl) (fun _ _ _ h => h) (by assumption) (Or.inl ⟨by rfl, ?hy101⟩) (fun _ => rfl) ?rest101
             case hy101 => (intro w hSw; (try dsimp only at hSw); go_simp; try with_reducible rfl))
          | (refine ordS_take (i := 4) (oi := { dst := some 51, op := Op.load 23 (Operand.tmp 50), type := 23, pos := _, after := #[{ on := 3, ground := Ground.data }, { on := 2, ground := Ground.guard }], guard := some (2, true) }) (v := undef) rfl (by kernel_rfl) (by kernel_rfl) (by kernel_rfl) (by kernel_rfl) (fun _ _ _ h => h) (by assumption) (Or.inr ⟨by rfl, rfl⟩) (fun _ => rfl) ?_)
        try simp only [Act.put, List.setIfInBounds_toArray, List.set_cons_zero, List.set_cons_succ]
        first
          | (refine' ordS_take (i := 5) (oi := { dst := some 52, op := Op.move (Operand.tmp 1), type := 27, pos := _, after := #[{ on := 2, ground := Ground.guard }], guard := some (2, true) }) (v := _) rfl (by kernel_rfl) (by kernel_rfl) (by kernel_rfl) (by kernel_rfl) (fun _ _ _ h => h) (by assumption) (Or.inl ⟨by rfl, ?hy102⟩) (fun _ => rfl) ?rest102
             case hy102 => (intro w hSw; (try dsimp only at hSw); go_simp; try with_reducible rfl))
          | (refine ordS_take (i := 5) (oi := { dst := some 52, op := Op.move (Operand.tmp 1), type := 27, pos := _, after := #[{ on := 2, ground := Ground.guard }], guard := some (2, true) }) (v := undef) rfl (by kernel_rfl) (by kernel_rfl) (by kernel_rfl) (by kernel_rfl) (fun _ _ _ h => h) (by assumption) (Or.inr ⟨by rfl, rfl⟩) (fun _ => rfl) ?_)
        try simp only [Act.put, List.setIfInBounds_toArray, List.set_cons_zero, List.set_cons_succ]
        first
          | (refine' ordS_take (i := 6) (oi := { dst := some 53, op := Op.move (Operand.tmp 10), type := 3, pos := _, after := #[{ on := 2, ground := Ground.guard }], guard := some (2, true) }) (v := _) rfl (by kernel_rfl) (by kernel_rfl) (by kernel_rfl) (by kernel_rfl) (fun _ _ _ h => h) (by assumption) (Or.inl ⟨by rfl, ?hy103⟩) (fun _ => rfl) ?rest103
             case hy103 => (intro w hSw; (try dsimp only at hSw); go_simp; try with_reducible rfl))
          | (refine ordS_take (i := 6) (oi := { dst := some 53, op := Op.move (Operand.tmp 10), type := 3, pos := _, after := #[{ on := 2, ground := Ground.guard }], guard := some (2, true) }) (v := undef) rfl (by kernel_rfl) (by kernel_rfl) (by kernel_rfl) (by kernel_rfl) (fun _ _ _ h => h) (by assumption) (Or.inr ⟨by rfl, rfl⟩) (fun _ => rfl) ?_)
        try simp only [Act.put, List.setIfInBounds_toArray, List.set_cons_zero, List.set_cons_succ]
        first
          | (refine' ordS_take (i := 7) (oi := { dst := some 54, op := Op.indexAddr 27 (Operand.tmp 52) (Operand.tmp 53), type := 0, pos := _, after := #[{ on := 5, ground := Ground.data }, { on := 6, ground := Ground.data }, { on := 2, ground := Ground.guard }], guard := some (2, true) }) (v := _) rfl (by kernel_rfl) (by kernel_rfl) (by kernel_rfl) (by kernel_rfl) (fun _ _ _ h => h) (by assumption) (Or.inl ⟨by rfl, ?hy104⟩) (fun _ => rfl) ?rest104
             case hy104 => (intro w hSw; (try dsimp only at hSw); go_simp; try with_reducible rfl))
          | (refine ordS_take (i := 7) (oi := { dst := some 54, op := Op.indexAddr 27 (Operand.tmp 52) (Operand.tmp 53), type := 0, pos := _, after := #[{ on := 5, ground := Ground.data }, { on := 6, ground := Ground.data }, { on := 2, ground := Ground.guard }], guard := some (2, true) }) (v := undef) rfl (by kernel_rfl) (by kernel_rfl) (by kernel_rfl) (by kernel_rfl) (fun _ _ _ h => h) (by assumption) (Or.inr ⟨by rfl, rfl⟩) (fun _ => rfl) ?_)
        try simp only [Act.put, List.setIfInBounds_toArray, List.set_cons_zero, List.set_cons_succ]
        first
          | (refine' ordS_take (i := 8) (oi := { dst := some 55, op := Op.load 37 (Operand.tmp 54), type := 37, pos := _, after := #[{ on := 7, ground := Ground.data }, { on := 2, ground := Ground.guard }], guard := some (2, true) }) (v := _) rfl (by kernel_rfl) (by kernel_rfl) (by kernel_rfl) (by kernel_rfl) (fun _ _ _ h => h) (by assumption) (Or.inl ⟨by rfl, ?hy105⟩) (fun _ => rfl) ?rest105
             case hy105 => (intro w hSw; (try dsimp only at hSw); go_simp; try with_reducible rfl))
          | (refine ordS_take (i := 8) (oi := { dst := some 55, op := Op.load 37 (Operand.tmp 54), type := 37, pos := _, after := #[{ on := 7, ground := Ground.data }, { on := 2, ground := Ground.guard }], guard := some (2, true) }) (v := undef) rfl (by kernel_rfl) (by kernel_rfl) (by kernel_rfl) (by kernel_rfl) (fun _ _ _ h => h) (by assumption) (Or.inr ⟨by rfl, rfl⟩) (fun _ => rfl) ?_)
        try simp only [Act.put, List.setIfInBounds_toArray, List.set_cons_zero, List.set_cons_succ]
        refine ordS_one (i := 9) (o := { dst := some 56, op := Op.call { callee := Callee.value (Operand.func 18), args := #[Operand.tmp 51, Operand.tmp 55], argTypes := #[23, 37] }, type := 4, pos := _, after := #[{ on := 4, ground := Ground.data }, { on := 8, ground := Ground.data }, { on := 2, ground := Ground.chain }, { on := 2, ground := Ground.guard }], guard := some (2, true) }) (by kernel_rfl) rfl (by rfl) (fun K hK => ?_)
        go_simp
        refine ⟨trivial, ?_⟩
        with_reducible refine (callsIn_wide.2 (rin_any A B x y _)).mono ?_
        rintro e w8 ⟨rfl, hb8⟩
        have hb8' := bl_tr hD hb8
        have hS8 : (fun w' : World => w'.cell? ⟨gz, oz + k * 2, none⟩ = some (.int .i64 x) ∧ w'.cell? ⟨gz, oz + k * 2 + 1, none⟩ = some (.int .i64 y) ∧ w'.cell? ⟨w.heap.size, 0, none⟩ = some (.int .i64 A) ∧ w'.cell? ⟨w.heap.size, 1, none⟩ = some (.int .i64 B)) w8 := ⟨cell_later hb8' p0, cell_later hb8' p1, cell_later hb8' f0, cell_later hb8' f1⟩
        have HB8 := Lib.hid (bl_tr hB hb8')
        refine hK _ _ hS8 ?_
        clear hK K hH hb8 hb8' hB p0 p1 f0 f1
        try simp only [Act.put, List.setIfInBounds_toArray, List.set_cons_zero, List.set_cons_succ]
        cases hi : inB A B x y
        · rw [hi] at HNX
          first
            | (refine' ordS_take (i := 10) (oi := { dst := some 57, op := Op.unOp UnOp.not 4 (Operand.tmp 56), type := 4, pos := _, after := #[{ on := 9, ground := Ground.data }, { on := 2, ground := Ground.guard }], guard := some (2, true) }) (v := _) rfl (by kernel_rfl) (by kernel_rfl) (by kernel_rfl) (by kernel_rfl) (fun _ _ _ h => h) (by assumption) (Or.inl ⟨by rfl, ?hy106⟩) (fun _ => rfl) ?rest106
               case hy106 => (intro w hSw; (try dsimp only at hSw); go_simp; try with_reducible rfl))
            | (refine ordS_take (i := 10) (oi := { dst := some 57, op := Op.unOp UnOp.not 4 (Operand.tmp 56), type := 4, pos := _, after := #[{ on := 9, ground := Ground.data }, { on := 2, ground := Ground.guard }], guard := some (2, true) }) (v := undef) rfl (by kernel_rfl) (by kernel_rfl) (by kernel_rfl) (by kernel_rfl) (fun _ _ _ h => h) (by assumption) (Or.inr ⟨by rfl, rfl⟩) (fun _ => rfl) ?_)
          try simp only [Act.put, List.setIfInBounds_toArray, List.set_cons_zero, List.set_cons_succ]
          first
            | (refine' ordS_take (i := 11) (oi := { dst := some 58, op := Op.pick (Operand.tmp 49) (Operand.tmp 57) (Operand.const (Value.bool false)), type := 4, pos := _, after := #[{ on := 2, ground := Ground.data }, { on := 10, ground := Ground.data }], guard := none }) (v := _) rfl (by kernel_rfl) (by kernel_rfl) (by kernel_rfl) (by kernel_rfl) (fun _ _ _ h => h) (by assumption) (Or.inl ⟨by rfl, ?hy107⟩) (fun _ => rfl) ?rest107
               case hy107 => (intro w hSw; (try dsimp only at hSw); go_simp; try with_reducible rfl))
            | (refine ordS_take (i := 11) (oi := { dst := some 58, op := Op.pick (Operand.tmp 49) (Operand.tmp 57) (Operand.const (Value.bool false)), type := 4, pos := _, after := #[{ on := 2, ground := Ground.data }, { on := 10, ground := Ground.data }], guard := none }) (v := undef) rfl (by kernel_rfl) (by kernel_rfl) (by kernel_rfl) (by kernel_rfl) (fun _ _ _ h => h) (by assumption) (Or.inr ⟨by rfl, rfl⟩) (fun _ => rfl) ?_)
          try simp only [Act.put, List.setIfInBounds_toArray, List.set_cons_zero, List.set_cons_succ]
          refine ordS_done (by kernel_rfl) ?_
          clear hS8 hi
          go_wp2
          go_roundw
          case rel => exact ⟨k + 1, by omega, by go_num, by rw [HNX.out]; rfl, HB8.out⟩
          case measure => simp [intOf]; omega
        · rw [hi] at HNX
          first
            | (refine' ordS_take (i := 10) (oi := { dst := some 57, op := Op.unOp UnOp.not 4 (Operand.tmp 56), type := 4, pos := _, after := #[{ on := 9, ground := Ground.data }, { on := 2, ground := Ground.guard }], guard := some (2, true) }) (v := _) rfl (by kernel_rfl) (by kernel_rfl) (by kernel_rfl) (by kernel_rfl) (fun _ _ _ h => h) (by assumption) (Or.inl ⟨by rfl, ?hy108⟩) (fun _ => rfl) ?rest108
               case hy108 => (intro w hSw; (try dsimp only at hSw); go_simp; try with_reducible rfl))
            | (refine ordS_take (i := 10) (oi := { dst := some 57, op := Op.unOp UnOp.not 4 (Operand.tmp 56), type := 4, pos := _, after := #[{ on := 9, ground := Ground.data }, { on := 2, ground := Ground.guard }], guard := some (2, true) }) (v := undef) rfl (by kernel_rfl) (by kernel_rfl) (by kernel_rfl) (by kernel_rfl) (fun _ _ _ h => h) (by assumption) (Or.inr ⟨by rfl, rfl⟩) (fun _ => rfl) ?_)
          try simp only [Act.put, List.setIfInBounds_toArray, List.set_cons_zero, List.set_cons_succ]
          first
            | (refine' ordS_take (i := 11) (oi := { dst := some 58, op := Op.pick (Operand.tmp 49) (Operand.tmp 57) (Operand.const (Value.bool false)), type := 4, pos := _, after := #[{ on := 2, ground := Ground.data }, { on := 10, ground := Ground.data }], guard := none }) (v := _) rfl (by kernel_rfl) (by kernel_rfl) (by kernel_rfl) (by kernel_rfl) (fun _ _ _ h => h) (by assumption) (Or.inl ⟨by rfl, ?hy109⟩) (fun _ => rfl) ?rest109
               case hy109 => (intro w hSw; (try dsimp only at hSw); go_simp; try with_reducible rfl))
            | (refine ordS_take (i := 11) (oi := { dst := some 58, op := Op.pick (Operand.tmp 49) (Operand.tmp 57) (Operand.const (Value.bool false)), type := 4, pos := _, after := #[{ on := 2, ground := Ground.data }, { on := 10, ground := Ground.data }], guard := none }) (v := undef) rfl (by kernel_rfl) (by kernel_rfl) (by kernel_rfl) (by kernel_rfl) (fun _ _ _ h => h) (by assumption) (Or.inr ⟨by rfl, rfl⟩) (fun _ => rfl) ?_)
          try simp only [Act.put, List.setIfInBounds_toArray, List.set_cons_zero, List.set_cons_succ]
          refine ordS_done (by kernel_rfl) ?_
          clear hS8 hi
          go_wp2
          go_roundw
          case rel => exact ⟨k + 1, by omega, by go_num, by rw [HNX.out]; rfl, HB8.out⟩
          case measure => simp [intOf]; omega
      · have hk2 := HKEEP.out hq0
        have HK2 := Lib.hid hk2
        have be : (q == 0) = false := beq_eq_false_iff_ne.2 hq0
        clear hk2 hq0
        go_upto_region 10 with fail
        refine (wpIn_wide (n := 11)).1 ?_
        refine ordS_begin (S := (fun w' : World => w'.cell? ⟨gz, oz + k * 2, none⟩ = some (.int .i64 x) ∧ w'.cell? ⟨gz, oz + k * 2 + 1, none⟩ = some (.int .i64 y) ∧ w'.cell? ⟨w.heap.size, 0, none⟩ = some (.int .i64 A) ∧ w'.cell? ⟨w.heap.size, 1, none⟩ = some (.int .i64 B))) (by kernel_rfl) ⟨cell_later hD p0, cell_later hD p1, cell_later hD f0, cell_later hD f1⟩ (fun hH => ?_)
        first
          | (refine' ordS_take (i := 0) (oi := { dst := some 47, op := Op.move (Operand.tmp 9), type := 31, pos := _, after := #[], guard := none }) (v := _) rfl (by kernel_rfl) (by kernel_rfl) (by kernel_rfl) (by kernel_rfl) (fun _ _ _ h => h) (by assumption) (Or.inl ⟨by rfl, ?hy110⟩) (fun _ => rfl) ?rest110
             case hy110 => (intro w hSw; (try dsimp only at hSw); go_simp; try with_reducible rfl))
          | (refine ordS_take (i := 0) (oi := { dst := some 47, op := Op.move (Operand.tmp 9), type := 31, pos := _, after := #[], guard := none }) (v := undef) rfl (by kernel_rfl) (by kernel_rfl) (by kernel_rfl) (by kernel_rfl) (fun _ _ _ h => h) (by assumption) (Or.inr ⟨by rfl, rfl⟩) (fun _ => rfl) ?_)
        try simp only [Act.put, List.setIfInBounds_toArray, List.set_cons_zero, List.set_cons_succ]
        first
          | (refine' ordS_take (i := 1) (oi := { dst := some 48, op := Op.binOp BinOp.eql 31 (Operand.tmp 47) (Operand.const (Value.int IntKind.i64 0)) 31, type := 4, pos := _, after := #[{ on := 0, ground := Ground.data }], guard := none }) (v := _) rfl (by kernel_rfl) (by kernel_rfl) (by kernel_rfl) (by kernel_rfl) (fun _ _ _ h => h) (by assumption) (Or.inl ⟨by rfl, ?hy111⟩) (fun _ => rfl) ?rest111
             case hy111 => (intro w hSw; (try dsimp only at hSw); go_simp; try with_reducible rfl))
          | (refine ordS_take (i := 1) (oi := { dst := some 48, op := Op.binOp BinOp.eql 31 (Operand.tmp 47) (Operand.const (Value.int IntKind.i64 0)) 31, type := 4, pos := _, after := #[{ on := 0, ground := Ground.data }], guard := none }) (v := undef) rfl (by kernel_rfl) (by kernel_rfl) (by kernel_rfl) (by kernel_rfl) (fun _ _ _ h => h) (by assumption) (Or.inr ⟨by rfl, rfl⟩) (fun _ => rfl) ?_)
        try simp only [Act.put, List.setIfInBounds_toArray, List.set_cons_zero, List.set_cons_succ]
        first
          | (refine' ordS_take (i := 2) (oi := { dst := some 49, op := Op.move (Operand.tmp 48), type := 4, pos := _, after := #[{ on := 1, ground := Ground.data }], guard := none }) (v := _) rfl (by kernel_rfl) (by kernel_rfl) (by kernel_rfl) (by kernel_rfl) (fun _ _ _ h => h) (by assumption) (Or.inl ⟨by rfl, ?hy112⟩) (fun _ => rfl) ?rest112
             case hy112 => (intro w hSw; (try dsimp only at hSw); go_simp; try with_reducible rfl))
          | (refine ordS_take (i := 2) (oi := { dst := some 49, op := Op.move (Operand.tmp 48), type := 4, pos := _, after := #[{ on := 1, ground := Ground.data }], guard := none }) (v := undef) rfl (by kernel_rfl) (by kernel_rfl) (by kernel_rfl) (by kernel_rfl) (fun _ _ _ h => h) (by assumption) (Or.inr ⟨by rfl, rfl⟩) (fun _ => rfl) ?_)
        try simp only [Act.put, List.setIfInBounds_toArray, List.set_cons_zero, List.set_cons_succ]
        first
          | (refine' ordS_take (i := 3) (oi := { dst := some 50, op := Op.fieldAddr 26 (Operand.tmp 3) 0, type := 0, pos := _, after := #[{ on := 2, ground := Ground.guard }], guard := some (2, true) }) (v := _) rfl (by kernel_rfl) (by kernel_rfl) (by kernel_rfl) (by kernel_rfl) (fun _ _ _ h => h) (by assumption) (Or.inl ⟨by rfl, ?hy113⟩) (fun _ => rfl) ?rest113
             case hy113 => (intro w hSw; (try dsimp only at hSw); go_simp; try with_reducible rfl))
          | (refine ordS_take (i := 3) (oi := { dst := some 50, op := Op.fieldAddr 26 (Operand.tmp 3) 0, type := 0, pos := _, after := #[{ on := 2, ground := Ground.guard }], guard := some (2, true) }) (v := undef) rfl (by kernel_rfl) (by kernel_rfl) (by kernel_rfl) (by kernel_rfl) (fun _ _ _ h => h) (by assumption) (Or.inr ⟨by rfl, rfl⟩) (fun _ => rfl) ?_)
        try simp only [Act.put, List.setIfInBounds_toArray, List.set_cons_zero, List.set_cons_succ]
        first
          | (refine' ordS_take (i := 4) (oi := { dst := some 51, op := Op.load 23 (Operand.tmp 50), type := 23, pos := _, after := #[{ on := 3, ground := Ground.data }, { on := 2, ground := Ground.guard }], guard := some (2, true) }) (v := _) rfl (by kernel_rfl) (by kernel_rfl) (by kernel_rfl) (by kernel_rfl) (fun _ _ _ h => h) (by assumption) (Or.inl ⟨by rfl, ?hy114⟩) (fun _ => rfl) ?rest114
             case hy114 => (intro w hSw; (try dsimp only at hSw); go_simp; try with_reducible rfl))
          | (refine ordS_take (i := 4) (oi := { dst := some 51, op := Op.load 23 (Operand.tmp 50), type := 23, pos := _, after := #[{ on := 3, ground := Ground.data }, { on := 2, ground := Ground.guard }], guard := some (2, true) }) (v := undef) rfl (by kernel_rfl) (by kernel_rfl) (by kernel_rfl) (by kernel_rfl) (fun _ _ _ h => h) (by assumption) (Or.inr ⟨by rfl, rfl⟩) (fun _ => rfl) ?_)
        try simp only [Act.put, List.setIfInBounds_toArray, List.set_cons_zero, List.set_cons_succ]
        first
          | (refine' ordS_take (i := 5) (oi := { dst := some 52, op := Op.move (Operand.tmp 1), type := 27, pos := _, after := #[{ on := 2, ground := Ground.guard }], guard := some (2, true) }) (v := _) rfl (by kernel_rfl) (by kernel_rfl) (by kernel_rfl) (by kernel_rfl) (fun _ _ _ h => h) (by assumption) (Or.inl ⟨by rfl, ?hy115⟩) (fun _ => rfl) ?rest115
             case hy115 => (intro w hSw; (try dsimp only at hSw); go_simp; try with_reducible rfl))
          | (refine ordS_take (i := 5) (oi := { dst := some 52, op := Op.move (Operand.tmp 1), type := 27, pos := _, after := #[{ on := 2, ground := Ground.guard }], guard := some (2, true) }) (v := undef) rfl (by kernel_rfl) (by kernel_rfl) (by kernel_rfl) (by kernel_rfl) (fun _ _ _ h => h) (by assumption) (Or.inr ⟨by rfl, rfl⟩) (fun _ => rfl) ?_)
        try simp only [Act.put, List.setIfInBounds_toArray, List.set_cons_zero, List.set_cons_succ]
        first
          | (refine' ordS_take (i := 6) (oi := { dst := some 53, op := Op.move (Operand.tmp 10), type := 3, pos := _, after := #[{ on := 2, ground := Ground.guard }], guard := some (2, true) }) (v := _) rfl (by kernel_rfl) (by kernel_rfl) (by kernel_rfl) (by kernel_rfl) (fun _ _ _ h => h) (by assumption) (Or.inl ⟨by rfl, ?hy116⟩) (fun _ => rfl) ?rest116
             case hy116 => (intro w hSw; (try dsimp only at hSw); go_simp; try with_reducible rfl))
          | (refine ordS_take (i := 6) (oi := { dst := some 53, op := Op.move (Operand.tmp 10), type := 3, pos := _, after := #[{ on := 2, ground := Ground.guard }], guard := some (2, true) }) (v := undef) rfl (by kernel_rfl) (by kernel_rfl) (by kernel_rfl) (by kernel_rfl) (fun _ _ _ h => h) (by assumption) (Or.inr ⟨by rfl, rfl⟩) (fun _ => rfl) ?_)
        try simp only [Act.put, List.setIfInBounds_toArray, List.set_cons_zero, List.set_cons_succ]
        first
          | (refine' ordS_take (i := 7) (oi := { dst := some 54, op := Op.indexAddr 27 (Operand.tmp 52) (Operand.tmp 53), type := 0, pos := _, after := #[{ on := 5, ground := Ground.data }, { on := 6, ground := Ground.data }, { on := 2, ground := Ground.guard }], guard := some (2, true) }) (v := _) rfl (by kernel_rfl) (by kernel_rfl) (by kernel_rfl) (by kernel_rfl) (fun _ _ _ h => h) (by assumption) (Or.inl ⟨by rfl, ?hy117⟩) (fun _ => rfl) ?rest117
             case hy117 => (intro w hSw; (try dsimp only at hSw); go_simp; try with_reducible rfl))
          | (refine ordS_take (i := 7) (oi := { dst := some 54, op := Op.indexAddr 27 (Operand.tmp 52) (Operand.tmp 53), type := 0, pos := _, after := #[{ on := 5, ground := Ground.data }, { on := 6, ground := Ground.data }, { on := 2, ground := Ground.guard }], guard := some (2, true) }) (v := undef) rfl (by kernel_rfl) (by kernel_rfl) (by kernel_rfl) (by kernel_rfl) (fun _ _ _ h => h) (by assumption) (Or.inr ⟨by rfl, rfl⟩) (fun _ => rfl) ?_)
        try simp only [Act.put, List.setIfInBounds_toArray, List.set_cons_zero, List.set_cons_succ]
        first
          | (refine' ordS_take (i := 8) (oi := { dst := some 55, op := Op.load 37 (Operand.tmp 54), type := 37, pos := _, after := #[{ on := 7, ground := Ground.data }, { on := 2, ground := Ground.guard }], guard := some (2, true) }) (v := _) rfl (by kernel_rfl) (by kernel_rfl) (by kernel_rfl) (by kernel_rfl) (fun _ _ _ h => h) (by assumption) (Or.inl ⟨by rfl, ?hy118⟩) (fun _ => rfl) ?rest118
             case hy118 => (intro w hSw; (try dsimp only at hSw); go_simp; try with_reducible rfl))
          | (refine ordS_take (i := 8) (oi := { dst := some 55, op := Op.load 37 (Operand.tmp 54), type := 37, pos := _, after := #[{ on := 7, ground := Ground.data }, { on := 2, ground := Ground.guard }], guard := some (2, true) }) (v := undef) rfl (by kernel_rfl) (by kernel_rfl) (by kernel_rfl) (by kernel_rfl) (fun _ _ _ h => h) (by assumption) (Or.inr ⟨by rfl, rfl⟩) (fun _ => rfl) ?_)
        try simp only [Act.put, List.setIfInBounds_toArray, List.set_cons_zero, List.set_cons_succ]
        refine ordS_skip (i := 9) (o := { dst := some 56, op := Op.call { callee := Callee.value (Operand.func 18), args := #[Operand.tmp 51, Operand.tmp 55], argTypes := #[23, 37] }, type := 4, pos := _, after := #[{ on := 4, ground := Ground.data }, { on := 8, ground := Ground.data }, { on := 2, ground := Ground.chain }, { on := 2, ground := Ground.guard }], guard := some (2, true) }) (by kernel_rfl) rfl (by rfl) (fun _ => trivial) hH ?_
        try simp only [Act.put, List.setIfInBounds_toArray, List.set_cons_zero, List.set_cons_succ]
        first
          | (refine' ordS_take (i := 10) (oi := { dst := some 57, op := Op.unOp UnOp.not 4 (Operand.tmp 56), type := 4, pos := _, after := #[{ on := 9, ground := Ground.data }, { on := 2, ground := Ground.guard }], guard := some (2, true) }) (v := _) rfl (by kernel_rfl) (by kernel_rfl) (by kernel_rfl) (by kernel_rfl) (fun _ _ _ h => h) (by assumption) (Or.inl ⟨by rfl, ?hy119⟩) (fun _ => rfl) ?rest119
             case hy119 => (intro w hSw; (try dsimp only at hSw); go_simp; try with_reducible rfl))
          | (refine ordS_take (i := 10) (oi := { dst := some 57, op := Op.unOp UnOp.not 4 (Operand.tmp 56), type := 4, pos := _, after := #[{ on := 9, ground := Ground.data }, { on := 2, ground := Ground.guard }], guard := some (2, true) }) (v := undef) rfl (by kernel_rfl) (by kernel_rfl) (by kernel_rfl) (by kernel_rfl) (fun _ _ _ h => h) (by assumption) (Or.inr ⟨by rfl, rfl⟩) (fun _ => rfl) ?_)
        try simp only [Act.put, List.setIfInBounds_toArray, List.set_cons_zero, List.set_cons_succ]
        first
          | (refine' ordS_take (i := 11) (oi := { dst := some 58, op := Op.pick (Operand.tmp 49) (Operand.tmp 57) (Operand.const (Value.bool false)), type := 4, pos := _, after := #[{ on := 2, ground := Ground.data }, { on := 10, ground := Ground.data }], guard := none }) (v := _) rfl (by kernel_rfl) (by kernel_rfl) (by kernel_rfl) (by kernel_rfl) (fun _ _ _ h => h) (by assumption) (Or.inl ⟨by rfl, ?hy120⟩) (fun _ => rfl) ?rest120
             case hy120 => (intro w hSw; (try dsimp only at hSw); go_simp; try with_reducible rfl))
          | (refine ordS_take (i := 11) (oi := { dst := some 58, op := Op.pick (Operand.tmp 49) (Operand.tmp 57) (Operand.const (Value.bool false)), type := 4, pos := _, after := #[{ on := 2, ground := Ground.data }, { on := 10, ground := Ground.data }], guard := none }) (v := undef) rfl (by kernel_rfl) (by kernel_rfl) (by kernel_rfl) (by kernel_rfl) (fun _ _ _ h => h) (by assumption) (Or.inr ⟨by rfl, rfl⟩) (fun _ => rfl) ?_)
        try simp only [Act.put, List.setIfInBounds_toArray, List.set_cons_zero, List.set_cons_succ]
        refine ordS_done (by kernel_rfl) ?_
        have HB8 := Lib.hid (bl_tr hB hD)
        clear hH hB hD p0 p1 f0 f1
        go_wp2
        go_roundw
        case rel => exact ⟨k + 1, by omega, by go_num, by rw [HK2.out], HB8.out⟩
        case measure => simp [intOf]; omega
    · obtain rfl : k = zs.length := by omega
      rw [want_all]
      rw [HE.out]
      have hA4 := bl_tr hA hB
      have f0 := cell_later hB F0.out
      have f1 := cell_later hB F1.out
      have f2 := cell_later hB F2.out
      have hm4 := hm.below hB
      clear hB
      go_wp2_with fail
      refine (rall_any A B r a a2 c c2 fs zs _ (hr.below hA4) hu (hz.below hA4) (by omega) hmay HAREA.out HI.out h0 h16).mono ?_
      rintro e w5 ⟨b5, q5, rfl, hm5, _, _, _, hb5⟩
      rw [HMS.out] at hm5
      have hA5 := bl_tr hA4 hb5
      replace f0 := cell_later hb5 f0
      replace f1 := cell_later hb5 f1
      replace f2 := cell_later hb5 f2
      replace hm4 := hm4.below hb5
      clear hb5 hA4
      go_wp2_with fail
      refine (told_any b1 q1 b5 q5 A B ms _ hm4 hm5 hgood).mono ?_
      rintro e w6 ⟨rfl, hb6⟩
      have hA6 := bl_tr hA5 hb6
      replace f0 := cell_later hb6 f0
      replace f1 := cell_later hb6 f1
      replace f2 := cell_later hb6 f2
      clear hb6 hA5 hm4 hm5
      cases zs with
      | nil =>
        go_wp2_with fail
        refine (awake_any _).mono ?_
        rintro e w9 ⟨rfl, hb9⟩
        have hA9 := bl_tr hA6 hb9
        clear hb9 hA6
        go_wp2
        go_ret
        exact ⟨rfl, hA9⟩
      | cons z1 zr =>
        obtain ⟨gz, oz, rfl, p0, p1⟩ := (hz.below hA6).cell (k := 0) (by simp)
        obtain ⟨x, hx⟩ : ∃ x, z1.1 = x := ⟨_, rfl⟩
        obtain ⟨y, hy⟩ : ∃ y, z1.2 = y := ⟨_, rfl⟩
        have hzy : z1 = (x, y) := Prod.ext hx hy
        rw [Nat.zero_mul, Nat.add_zero, List.getElem_cons_zero, hzy] at p0 p1
        have hxi : inB A B x y = true := by have := HI.out z1 (by simp); rw [hzy] at this; exact this
        have HXI := Lib.hid hxi
        have HE1 := Lib.hid (show errA A B fs.length r [(x, y)] = 0 by
          obtain ⟨h1, h2, h3, _⟩ := errA_ok HE.out
          unfold errA
          rw [if_neg (fun e => e h1), if_neg (by omega), if_pos (fun z hz => by simp at hz; rw [hz]; exact hxi)])
        obtain ⟨L, hL⟩ : ∃ L, (z1 :: zr).length = L := ⟨_, rfl⟩
        have hl0 : (0 : Int) < (L : Int) := by simp at hL; omega
        rw [hL]
        dsimp only at p0 p1
        have hgv := allB_good (X := A) (Y := B) (r := r) (fs := fs) (zs := [(x, y)]) hmay (fun z hz => by simp at hz; rw [hz]; exact HXI.out)
        obtain ⟨vs, hvs⟩ : ∃ vs, allB A B fs r [(x, y)] = vs := ⟨_, rfl⟩
        rw [hvs] at hgv
        have HVS := Lib.hid hvs
        clear hx hy hzy hxi hL hvs
        go_upto_region 17 with fail
        refine (wpIn_wide (n := 11)).1 ?_
        have hD := bl_dr (bl0 w6)
        refine ordS_begin (S := (fun w' : World => w'.cell? ⟨w.heap.size, 0, none⟩ = some (.int .i64 A) ∧ w'.cell? ⟨w.heap.size, 1, none⟩ = some (.int .i64 B) ∧ w'.cell? ⟨w.heap.size, 2, none⟩ = some (.slice a fs.length c) ∧ w'.cell? ⟨gz, oz, none⟩ = some (.int .i64 x) ∧ w'.cell? ⟨gz, oz + 1, none⟩ = some (.int .i64 y))) (by kernel_rfl) ⟨cell_later hD f0, cell_later hD f1, cell_later hD f2, cell_later hD p0, cell_later hD p1⟩ (fun hH => ?_)
        first
          | (refine' ordS_take (i := 0) (oi := { dst := some 90, op := Op.load 26 (Operand.tmp 3), type := 26, pos := _, after := #[], guard := none }) (v := _) rfl (by kernel_rfl) (by kernel_rfl) (by kernel_rfl) (by kernel_rfl) (fun _ _ _ h => h) (by assumption) (Or.inl ⟨by rfl, ?hy121⟩) (fun _ => rfl) ?rest121
             case hy121 => (intro w hSw; (try dsimp only at hSw); go_simp; try with_reducible rfl))
          | (refine ordS_take (i := 0) (oi := { dst := some 90, op := Op.load 26 (Operand.tmp 3), type := 26, pos := _, after := #[], guard := none }) (v := undef) rfl (by kernel_rfl) (by kernel_rfl) (by kernel_rfl) (by kernel_rfl) (fun _ _ _ h => h) (by assumption) (Or.inr ⟨by rfl, rfl⟩) (fun _ => rfl) ?_)
        try simp only [Act.put, List.setIfInBounds_toArray, List.set_cons_zero, List.set_cons_succ]
        first
          | (refine' ordS_take (i := 1) (oi := { dst := some 91, op := Op.move (Operand.tmp 1), type := 27, pos := _, after := #[], guard := none }) (v := _) rfl (by kernel_rfl) (by kernel_rfl) (by kernel_rfl) (by kernel_rfl) (fun _ _ _ h => h) (by assumption) (Or.inl ⟨by rfl, ?hy122⟩) (fun _ => rfl) ?rest122
             case hy122 => (intro w hSw; (try dsimp only at hSw); go_simp; try with_reducible rfl))
          | (refine ordS_take (i := 1) (oi := { dst := some 91, op := Op.move (Operand.tmp 1), type := 27, pos := _, after := #[], guard := none }) (v := undef) rfl (by kernel_rfl) (by kernel_rfl) (by kernel_rfl) (by kernel_rfl) (fun _ _ _ h => h) (by assumption) (Or.inr ⟨by rfl, rfl⟩) (fun _ => rfl) ?_)
        try simp only [Act.put, List.setIfInBounds_toArray, List.set_cons_zero, List.set_cons_succ]
        first
          | (refine' ordS_take (i := 2) (oi := { dst := some 92, op := Op.indexAddr 27 (Operand.tmp 91) (Operand.const (Value.int IntKind.i64 0)), type := 0, pos := _, after := #[{ on := 1, ground := Ground.data }], guard := none }) (v := _) rfl (by kernel_rfl) (by kernel_rfl) (by kernel_rfl) (by kernel_rfl) (fun _ _ _ h => h) (by assumption) (Or.inl ⟨by rfl, ?hy123⟩) (fun _ => rfl) ?rest123
             case hy123 => (intro w hSw; (try dsimp only at hSw); go_simp; try with_reducible rfl))
          | (refine ordS_take (i := 2) (oi := { dst := some 92, op := Op.indexAddr 27 (Operand.tmp 91) (Operand.const (Value.int IntKind.i64 0)), type := 0, pos := _, after := #[{ on := 1, ground := Ground.data }], guard := none }) (v := undef) rfl (by kernel_rfl) (by kernel_rfl) (by kernel_rfl) (by kernel_rfl) (fun _ _ _ h => h) (by assumption) (Or.inr ⟨by rfl, rfl⟩) (fun _ => rfl) ?_)
        try simp only [Act.put, List.setIfInBounds_toArray, List.set_cons_zero, List.set_cons_succ]
        first
          | (refine' ordS_take (i := 3) (oi := { dst := some 93, op := Op.load 37 (Operand.tmp 92), type := 37, pos := _, after := #[{ on := 2, ground := Ground.data }], guard := none }) (v := _) rfl (by kernel_rfl) (by kernel_rfl) (by kernel_rfl) (by kernel_rfl) (fun _ _ _ h => h) (by assumption) (Or.inl ⟨by rfl, ?hy124⟩) (fun _ => rfl) ?rest124
             case hy124 => (intro w hSw; (try dsimp only at hSw); go_simp; try with_reducible rfl))
          | (refine ordS_take (i := 3) (oi := { dst := some 93, op := Op.load 37 (Operand.tmp 92), type := 37, pos := _, after := #[{ on := 2, ground := Ground.data }], guard := none }) (v := undef) rfl (by kernel_rfl) (by kernel_rfl) (by kernel_rfl) (by kernel_rfl) (fun _ _ _ h => h) (by assumption) (Or.inr ⟨by rfl, rfl⟩) (fun _ => rfl) ?_)
        try simp only [Act.put, List.setIfInBounds_toArray, List.set_cons_zero, List.set_cons_succ]
        first
          | (refine' ordS_take (i := 4) (oi := { dst := some 94, op := Op.move (Operand.tmp 2), type := 3, pos := _, after := #[], guard := none }) (v := _) rfl (by kernel_rfl) (by kernel_rfl) (by kernel_rfl) (by kernel_rfl) (fun _ _ _ h => h) (by assumption) (Or.inl ⟨by rfl, ?hy125⟩) (fun _ => rfl) ?rest125
             case hy125 => (intro w hSw; (try dsimp only at hSw); go_simp; try with_reducible rfl))
          | (refine ordS_take (i := 4) (oi := { dst := some 94, op := Op.move (Operand.tmp 2), type := 3, pos := _, after := #[], guard := none }) (v := undef) rfl (by kernel_rfl) (by kernel_rfl) (by kernel_rfl) (by kernel_rfl) (fun _ _ _ h => h) (by assumption) (Or.inr ⟨by rfl, rfl⟩) (fun _ => rfl) ?_)
        try simp only [Act.put, List.setIfInBounds_toArray, List.set_cons_zero, List.set_cons_succ]
        refine ordS_one (i := 5) (o := { dst := some 95, op := Op.call { callee := Callee.value (Operand.func 21), args := #[Operand.tmp 90, Operand.tmp 93, Operand.tmp 94], argTypes := #[26, 37, 3] }, type := 32, pos := _, after := #[{ on := 0, ground := Ground.data }, { on := 3, ground := Ground.data }, { on := 4, ground := Ground.data }], guard := none }) (by kernel_rfl) rfl (by rfl) (fun K hK => ?_)
        go_simp
        refine ⟨trivial, ?_⟩
        with_reducible refine (callsIn_wide.2 (visible_yes A B r x y a c fs _ (hr.below (bl_tr hA6 hD)) HE1.out)).mono ?_
        rintro e w7 ⟨b7, q7, rfl, hm7, _, _, _, hb7⟩
        rw [HVS.out] at hm7
        have hb7' := bl_tr hD hb7
        replace f0 := cell_later hb7' f0
        replace f1 := cell_later hb7' f1
        replace f2 := cell_later hb7' f2
        replace p0 := cell_later hb7' p0
        replace p1 := cell_later hb7' p1
        have hS7 : (fun w' : World => w'.cell? ⟨w.heap.size, 0, none⟩ = some (.int .i64 A) ∧ w'.cell? ⟨w.heap.size, 1, none⟩ = some (.int .i64 B) ∧ w'.cell? ⟨w.heap.size, 2, none⟩ = some (.slice a fs.length c) ∧ w'.cell? ⟨gz, oz, none⟩ = some (.int .i64 x) ∧ w'.cell? ⟨gz, oz + 1, none⟩ = some (.int .i64 y)) w7 := ⟨f0, f1, f2, p0, p1⟩
        have hA7 := bl_tr hA6 hb7'
        refine hK _ _ hS7 ?_
        clear hK K hH hb7 hb7' hD
        try simp only [Act.put, List.setIfInBounds_toArray, List.set_cons_zero, List.set_cons_succ]
        first
          | (refine' ordS_take (i := 6) (oi := { dst := some 89, op := Op.move (Operand.tmp 95), type := 32, pos := _, after := #[{ on := 5, ground := Ground.data }], guard := none }) (v := _) rfl (by kernel_rfl) (by kernel_rfl) (by kernel_rfl) (by kernel_rfl) (fun _ _ _ h => h) (by assumption) (Or.inl ⟨by rfl, ?hy126⟩) (fun _ => rfl) ?rest126
             case hy126 => (intro w hSw; (try dsimp only at hSw); go_simp; try with_reducible rfl))
          | (refine ordS_take (i := 6) (oi := { dst := some 89, op := Op.move (Operand.tmp 95), type := 32, pos := _, after := #[{ on := 5, ground := Ground.data }], guard := none }) (v := undef) rfl (by kernel_rfl) (by kernel_rfl) (by kernel_rfl) (by kernel_rfl) (fun _ _ _ h => h) (by assumption) (Or.inr ⟨by rfl, rfl⟩) (fun _ => rfl) ?_)
        try simp only [Act.put, List.setIfInBounds_toArray, List.set_cons_zero, List.set_cons_succ]
        first
          | (refine' ordS_take (i := 7) (oi := { dst := some 96, op := Op.extract (Operand.tmp 89) 0, type := 30, pos := _, after := #[{ on := 6, ground := Ground.data }], guard := none }) (v := _) rfl (by kernel_rfl) (by kernel_rfl) (by kernel_rfl) (by kernel_rfl) (fun _ _ _ h => h) (by assumption) (Or.inl ⟨by rfl, ?hy127⟩) (fun _ => rfl) ?rest127
             case hy127 => (intro w hSw; (try dsimp only at hSw); go_simp; try with_reducible rfl))
          | (refine ordS_take (i := 7) (oi := { dst := some 96, op := Op.extract (Operand.tmp 89) 0, type := 30, pos := _, after := #[{ on := 6, ground := Ground.data }], guard := none }) (v := undef) rfl (by kernel_rfl) (by kernel_rfl) (by kernel_rfl) (by kernel_rfl) (fun _ _ _ h => h) (by assumption) (Or.inr ⟨by rfl, rfl⟩) (fun _ => rfl) ?_)
        try simp only [Act.put, List.setIfInBounds_toArray, List.set_cons_zero, List.set_cons_succ]
        first
          | (refine' ordS_take (i := 8) (oi := { dst := some 97, op := Op.extract (Operand.tmp 89) 1, type := 31, pos := _, after := #[{ on := 6, ground := Ground.data }, { on := 9, ground := Ground.gcOnly Departure.lateStores }], guard := none }) (v := _) rfl (by kernel_rfl) (by kernel_rfl) (by kernel_rfl) (by kernel_rfl) (fun _ _ _ h => h) (by assumption) (Or.inl ⟨by rfl, ?hy128⟩) (fun _ => rfl) ?rest128
             case hy128 => (intro w hSw; (try dsimp only at hSw); go_simp; try with_reducible rfl))
          | (refine ordS_take (i := 8) (oi := { dst := some 97, op := Op.extract (Operand.tmp 89) 1, type := 31, pos := _, after := #[{ on := 6, ground := Ground.data }, { on := 9, ground := Ground.gcOnly Departure.lateStores }], guard := none }) (v := undef) rfl (by kernel_rfl) (by kernel_rfl) (by kernel_rfl) (by kernel_rfl) (fun _ _ _ h => h) (by assumption) (Or.inr ⟨by rfl, rfl⟩) (fun _ => rfl) ?_)
        try simp only [Act.put, List.setIfInBounds_toArray, List.set_cons_zero, List.set_cons_succ]
        first
          | (refine' ordS_take (i := 9) (oi := { dst := some 11, op := Op.assign (Operand.tmp 96), type := 30, pos := _, after := #[{ on := 7, ground := Ground.data }, { on := 5, ground := Ground.chain }, { on := 0, ground := Ground.phase }, { on := 1, ground := Ground.phase }, { on := 2, ground := Ground.phase }, { on := 3, ground := Ground.phase }, { on := 4, ground := Ground.phase }, { on := 5, ground := Ground.phase }, { on := 6, ground := Ground.phase }, { on := 7, ground := Ground.phase }, { on := 8, ground := Ground.textOnly Departure.lateStores }], guard := none }) (v := _) rfl (by kernel_rfl) (by kernel_rfl) (by kernel_rfl) (by kernel_rfl) (fun _ _ _ h => h) (by assumption) (Or.inl ⟨by rfl, ?hy129⟩) (fun _ => rfl) ?rest129
             case hy129 => (intro w hSw; (try dsimp only at hSw); go_simp; try with_reducible rfl))
          | (refine ordS_take (i := 9) (oi := { dst := some 11, op := Op.assign (Operand.tmp 96), type := 30, pos := _, after := #[{ on := 7, ground := Ground.data }, { on := 5, ground := Ground.chain }, { on := 0, ground := Ground.phase }, { on := 1, ground := Ground.phase }, { on := 2, ground := Ground.phase }, { on := 3, ground := Ground.phase }, { on := 4, ground := Ground.phase }, { on := 5, ground := Ground.phase }, { on := 6, ground := Ground.phase }, { on := 7, ground := Ground.phase }, { on := 8, ground := Ground.textOnly Departure.lateStores }], guard := none }) (v := undef) rfl (by kernel_rfl) (by kernel_rfl) (by kernel_rfl) (by kernel_rfl) (fun _ _ _ h => h) (by assumption) (Or.inr ⟨by rfl, rfl⟩) (fun _ => rfl) ?_)
        try simp only [Act.put, List.setIfInBounds_toArray, List.set_cons_zero, List.set_cons_succ]
        first
          | (refine' ordS_take (i := 10) (oi := { dst := some 12, op := Op.assign (Operand.tmp 97), type := 31, pos := _, after := #[{ on := 8, ground := Ground.data }, { on := 9, ground := Ground.chain }, { on := 0, ground := Ground.phase }, { on := 1, ground := Ground.phase }, { on := 2, ground := Ground.phase }, { on := 3, ground := Ground.phase }, { on := 4, ground := Ground.phase }, { on := 5, ground := Ground.phase }, { on := 6, ground := Ground.phase }, { on := 7, ground := Ground.phase }, { on := 8, ground := Ground.phase }, { on := 9, ground := Ground.phase }], guard := none }) (v := _) rfl (by kernel_rfl) (by kernel_rfl) (by kernel_rfl) (by kernel_rfl) (fun _ _ _ h => h) (by assumption) (Or.inl ⟨by rfl, ?hy130⟩) (fun _ => rfl) ?rest130
             case hy130 => (intro w hSw; (try dsimp only at hSw); go_simp; try with_reducible rfl))
          | (refine ordS_take (i := 10) (oi := { dst := some 12, op := Op.assign (Operand.tmp 97), type := 31, pos := _, after := #[{ on := 8, ground := Ground.data }, { on := 9, ground := Ground.chain }, { on := 0, ground := Ground.phase }, { on := 1, ground := Ground.phase }, { on := 2, ground := Ground.phase }, { on := 3, ground := Ground.phase }, { on := 4, ground := Ground.phase }, { on := 5, ground := Ground.phase }, { on := 6, ground := Ground.phase }, { on := 7, ground := Ground.phase }, { on := 8, ground := Ground.phase }, { on := 9, ground := Ground.phase }], guard := none }) (v := undef) rfl (by kernel_rfl) (by kernel_rfl) (by kernel_rfl) (by kernel_rfl) (fun _ _ _ h => h) (by assumption) (Or.inr ⟨by rfl, rfl⟩) (fun _ => rfl) ?_)
        try simp only [Act.put, List.setIfInBounds_toArray, List.set_cons_zero, List.set_cons_succ]
        refine ordS_done (by kernel_rfl) ?_
        clear hS7
        go_upto_region 18 with fail
        refine (wpIn_wide (n := 11)).1 ?_
        have hD := bl_dr (bl0 w7)
        refine ordS_begin (S := (fun w' : World => w'.cell? ⟨w.heap.size, 0, none⟩ = some (.int .i64 A) ∧ w'.cell? ⟨w.heap.size, 1, none⟩ = some (.int .i64 B) ∧ w'.cell? ⟨w.heap.size, 2, none⟩ = some (.slice a fs.length c) ∧ w'.cell? ⟨gz, oz, none⟩ = some (.int .i64 x) ∧ w'.cell? ⟨gz, oz + 1, none⟩ = some (.int .i64 y))) (by kernel_rfl) ⟨cell_later hD f0, cell_later hD f1, cell_later hD f2, cell_later hD p0, cell_later hD p1⟩ (fun hH => ?_)
        first
          | (refine' ordS_take (i := 0) (oi := { dst := some 98, op := Op.move (Operand.tmp 12), type := 31, pos := _, after := #[], guard := none }) (v := _) rfl (by kernel_rfl) (by kernel_rfl) (by kernel_rfl) (by kernel_rfl) (fun _ _ _ h => h) (by assumption) (Or.inl ⟨by rfl, ?hy131⟩) (fun _ => rfl) ?rest131
             case hy131 => (intro w hSw; (try dsimp only at hSw); go_simp; try with_reducible rfl))
          | (refine ordS_take (i := 0) (oi := { dst := some 98, op := Op.move (Operand.tmp 12), type := 31, pos := _, after := #[], guard := none }) (v := undef) rfl (by kernel_rfl) (by kernel_rfl) (by kernel_rfl) (by kernel_rfl) (fun _ _ _ h => h) (by assumption) (Or.inr ⟨by rfl, rfl⟩) (fun _ => rfl) ?_)
        try simp only [Act.put, List.setIfInBounds_toArray, List.set_cons_zero, List.set_cons_succ]
        first
          | (refine' ordS_take (i := 1) (oi := { dst := some 99, op := Op.binOp BinOp.neq 31 (Operand.tmp 98) (Operand.const (Value.int IntKind.i64 0)) 31, type := 4, pos := _, after := #[{ on := 0, ground := Ground.data }], guard := none }) (v := _) rfl (by kernel_rfl) (by kernel_rfl) (by kernel_rfl) (by kernel_rfl) (fun _ _ _ h => h) (by assumption) (Or.inl ⟨by rfl, ?hy132⟩) (fun _ => rfl) ?rest132
             case hy132 => (intro w hSw; (try dsimp only at hSw); go_simp; try with_reducible rfl))
          | (refine ordS_take (i := 1) (oi := { dst := some 99, op := Op.binOp BinOp.neq 31 (Operand.tmp 98) (Operand.const (Value.int IntKind.i64 0)) 31, type := 4, pos := _, after := #[{ on := 0, ground := Ground.data }], guard := none }) (v := undef) rfl (by kernel_rfl) (by kernel_rfl) (by kernel_rfl) (by kernel_rfl) (fun _ _ _ h => h) (by assumption) (Or.inr ⟨by rfl, rfl⟩) (fun _ => rfl) ?_)
        try simp only [Act.put, List.setIfInBounds_toArray, List.set_cons_zero, List.set_cons_succ]
        first
          | (refine' ordS_take (i := 2) (oi := { dst := some 100, op := Op.move (Operand.tmp 99), type := 4, pos := _, after := #[{ on := 1, ground := Ground.data }], guard := none }) (v := _) rfl (by kernel_rfl) (by kernel_rfl) (by kernel_rfl) (by kernel_rfl) (fun _ _ _ h => h) (by assumption) (Or.inl ⟨by rfl, ?hy133⟩) (fun _ => rfl) ?rest133
             case hy133 => (intro w hSw; (try dsimp only at hSw); go_simp; try with_reducible rfl))
          | (refine ordS_take (i := 2) (oi := { dst := some 100, op := Op.move (Operand.tmp 99), type := 4, pos := _, after := #[{ on := 1, ground := Ground.data }], guard := none }) (v := undef) rfl (by kernel_rfl) (by kernel_rfl) (by kernel_rfl) (by kernel_rfl) (fun _ _ _ h => h) (by assumption) (Or.inr ⟨by rfl, rfl⟩) (fun _ => rfl) ?_)
        try simp only [Act.put, List.setIfInBounds_toArray, List.set_cons_zero, List.set_cons_succ]
        first
          | (refine' ordS_take (i := 3) (oi := { dst := some 101, op := Op.move (Operand.tmp 11), type := 30, pos := _, after := #[{ on := 2, ground := Ground.guard }], guard := some (2, false) }) (v := _) rfl (by kernel_rfl) (by kernel_rfl) (by kernel_rfl) (by kernel_rfl) (fun _ _ _ h => h) (by assumption) (Or.inl ⟨by rfl, ?hy134⟩) (fun _ => rfl) ?rest134
             case hy134 => (intro w hSw; (try dsimp only at hSw); go_simp; try with_reducible rfl))
          | (refine ordS_take (i := 3) (oi := { dst := some 101, op := Op.move (Operand.tmp 11), type := 30, pos := _, after := #[{ on := 2, ground := Ground.guard }], guard := some (2, false) }) (v := undef) rfl (by kernel_rfl) (by kernel_rfl) (by kernel_rfl) (by kernel_rfl) (fun _ _ _ h => h) (by assumption) (Or.inr ⟨by rfl, rfl⟩) (fun _ => rfl) ?_)
        try simp only [Act.put, List.setIfInBounds_toArray, List.set_cons_zero, List.set_cons_succ]
        first
          | (refine' ordS_take (i := 4) (oi := { dst := some 102, op := Op.binOp BinOp.eql 30 (Operand.tmp 101) (Operand.const (Value.pointer none)) 30, type := 4, pos := _, after := #[{ on := 3, ground := Ground.data }, { on := 2, ground := Ground.guard }], guard := some (2, false) }) (v := _) rfl (by kernel_rfl) (by kernel_rfl) (by kernel_rfl) (by kernel_rfl) (fun _ _ _ h => h) (by assumption) (Or.inl ⟨by rfl, ?hy135⟩) (fun _ => rfl) ?rest135
             case hy135 => (intro w hSw; (try dsimp only at hSw); go_simp; try with_reducible rfl))
          | (refine ordS_take (i := 4) (oi := { dst := some 102, op := Op.binOp BinOp.eql 30 (Operand.tmp 101) (Operand.const (Value.pointer none)) 30, type := 4, pos := _, after := #[{ on := 3, ground := Ground.data }, { on := 2, ground := Ground.guard }], guard := some (2, false) }) (v := undef) rfl (by kernel_rfl) (by kernel_rfl) (by kernel_rfl) (by kernel_rfl) (fun _ _ _ h => h) (by assumption) (Or.inr ⟨by rfl, rfl⟩) (fun _ => rfl) ?_)
        try simp only [Act.put, List.setIfInBounds_toArray, List.set_cons_zero, List.set_cons_succ]
        first
          | (refine' ordS_take (i := 5) (oi := { dst := some 103, op := Op.pick (Operand.tmp 100) (Operand.const (Value.bool true)) (Operand.tmp 102), type := 4, pos := _, after := #[{ on := 2, ground := Ground.data }, { on := 4, ground := Ground.data }], guard := none }) (v := _) rfl (by kernel_rfl) (by kernel_rfl) (by kernel_rfl) (by kernel_rfl) (fun _ _ _ h => h) (by assumption) (Or.inl ⟨by rfl, ?hy136⟩) (fun _ => rfl) ?rest136
             case hy136 => (intro w hSw; (try dsimp only at hSw); go_simp; try with_reducible rfl))
          | (refine ordS_take (i := 5) (oi := { dst := some 103, op := Op.pick (Operand.tmp 100) (Operand.const (Value.bool true)) (Operand.tmp 102), type := 4, pos := _, after := #[{ on := 2, ground := Ground.data }, { on := 4, ground := Ground.data }], guard := none }) (v := undef) rfl (by kernel_rfl) (by kernel_rfl) (by kernel_rfl) (by kernel_rfl) (fun _ _ _ h => h) (by assumption) (Or.inr ⟨by rfl, rfl⟩) (fun _ => rfl) ?_)
        try simp only [Act.put, List.setIfInBounds_toArray, List.set_cons_zero, List.set_cons_succ]
        first
          | (refine' ordS_take (i := 6) (oi := { dst := some 104, op := Op.move (Operand.tmp 103), type := 4, pos := _, after := #[{ on := 5, ground := Ground.data }, { on := 2, ground := Ground.chain }], guard := none }) (v := _) rfl (by kernel_rfl) (by kernel_rfl) (by kernel_rfl) (by kernel_rfl) (fun _ _ _ h => h) (by assumption) (Or.inl ⟨by rfl, ?hy137⟩) (fun _ => rfl) ?rest137
             case hy137 => (intro w hSw; (try dsimp only at hSw); go_simp; try with_reducible rfl))
          | (refine ordS_take (i := 6) (oi := { dst := some 104, op := Op.move (Operand.tmp 103), type := 4, pos := _, after := #[{ on := 5, ground := Ground.data }, { on := 2, ground := Ground.chain }], guard := none }) (v := undef) rfl (by kernel_rfl) (by kernel_rfl) (by kernel_rfl) (by kernel_rfl) (fun _ _ _ h => h) (by assumption) (Or.inr ⟨by rfl, rfl⟩) (fun _ => rfl) ?_)
        try simp only [Act.put, List.setIfInBounds_toArray, List.set_cons_zero, List.set_cons_succ]
        first
          | (refine' ordS_take (i := 7) (oi := { dst := some 105, op := Op.move (Operand.tmp 11), type := 30, pos := _, after := #[{ on := 6, ground := Ground.guard }], guard := some (6, false) }) (v := _) rfl (by kernel_rfl) (by kernel_rfl) (by kernel_rfl) (by kernel_rfl) (fun _ _ _ h => h) (by assumption) (Or.inl ⟨by rfl, ?hy138⟩) (fun _ => rfl) ?rest138
             case hy138 => (intro w hSw; (try dsimp only at hSw); go_simp; try with_reducible rfl))
          | (refine ordS_take (i := 7) (oi := { dst := some 105, op := Op.move (Operand.tmp 11), type := 30, pos := _, after := #[{ on := 6, ground := Ground.guard }], guard := some (6, false) }) (v := undef) rfl (by kernel_rfl) (by kernel_rfl) (by kernel_rfl) (by kernel_rfl) (fun _ _ _ h => h) (by assumption) (Or.inr ⟨by rfl, rfl⟩) (fun _ => rfl) ?_)
        try simp only [Act.put, List.setIfInBounds_toArray, List.set_cons_zero, List.set_cons_succ]
        first
          | (refine' ordS_take (i := 8) (oi := { dst := some 106, op := Op.load 26 (Operand.tmp 3), type := 26, pos := _, after := #[{ on := 6, ground := Ground.guard }], guard := some (6, false) }) (v := _) rfl (by kernel_rfl) (by kernel_rfl) (by kernel_rfl) (by kernel_rfl) (fun _ _ _ h => h) (by assumption) (Or.inl ⟨by rfl, ?hy139⟩) (fun _ => rfl) ?rest139
             case hy139 => (intro w hSw; (try dsimp only at hSw); go_simp; try with_reducible rfl))
          | (refine ordS_take (i := 8) (oi := { dst := some 106, op := Op.load 26 (Operand.tmp 3), type := 26, pos := _, after := #[{ on := 6, ground := Ground.guard }], guard := some (6, false) }) (v := undef) rfl (by kernel_rfl) (by kernel_rfl) (by kernel_rfl) (by kernel_rfl) (fun _ _ _ h => h) (by assumption) (Or.inr ⟨by rfl, rfl⟩) (fun _ => rfl) ?_)
        try simp only [Act.put, List.setIfInBounds_toArray, List.set_cons_zero, List.set_cons_succ]
        first
          | (refine' ordS_take (i := 9) (oi := { dst := some 107, op := Op.move (Operand.tmp 1), type := 27, pos := _, after := #[{ on := 6, ground := Ground.guard }], guard := some (6, false) }) (v := _) rfl (by kernel_rfl) (by kernel_rfl) (by kernel_rfl) (by kernel_rfl) (fun _ _ _ h => h) (by assumption) (Or.inl ⟨by rfl, ?hy140⟩) (fun _ => rfl) ?rest140
             case hy140 => (intro w hSw; (try dsimp only at hSw); go_simp; try with_reducible rfl))
          | (refine ordS_take (i := 9) (oi := { dst := some 107, op := Op.move (Operand.tmp 1), type := 27, pos := _, after := #[{ on := 6, ground := Ground.guard }], guard := some (6, false) }) (v := undef) rfl (by kernel_rfl) (by kernel_rfl) (by kernel_rfl) (by kernel_rfl) (fun _ _ _ h => h) (by assumption) (Or.inr ⟨by rfl, rfl⟩) (fun _ => rfl) ?_)
        try simp only [Act.put, List.setIfInBounds_toArray, List.set_cons_zero, List.set_cons_succ]
        first
          | (refine' ordS_take (i := 10) (oi := { dst := some 108, op := Op.indexAddr 27 (Operand.tmp 107) (Operand.const (Value.int IntKind.i64 0)), type := 0, pos := _, after := #[{ on := 9, ground := Ground.data }, { on := 6, ground := Ground.guard }], guard := some (6, false) }) (v := _) rfl (by kernel_rfl) (by kernel_rfl) (by kernel_rfl) (by kernel_rfl) (fun _ _ _ h => h) (by assumption) (Or.inl ⟨by rfl, ?hy141⟩) (fun _ => rfl) ?rest141
             case hy141 => (intro w hSw; (try dsimp only at hSw); go_simp; try with_reducible rfl))
          | (refine ordS_take (i := 10) (oi := { dst := some 108, op := Op.indexAddr 27 (Operand.tmp 107) (Operand.const (Value.int IntKind.i64 0)), type := 0, pos := _, after := #[{ on := 9, ground := Ground.data }, { on := 6, ground := Ground.guard }], guard := some (6, false) }) (v := undef) rfl (by kernel_rfl) (by kernel_rfl) (by kernel_rfl) (by kernel_rfl) (fun _ _ _ h => h) (by assumption) (Or.inr ⟨by rfl, rfl⟩) (fun _ => rfl) ?_)
        try simp only [Act.put, List.setIfInBounds_toArray, List.set_cons_zero, List.set_cons_succ]
        first
          | (refine' ordS_take (i := 11) (oi := { dst := some 109, op := Op.load 37 (Operand.tmp 108), type := 37, pos := _, after := #[{ on := 10, ground := Ground.data }, { on := 6, ground := Ground.guard }], guard := some (6, false) }) (v := _) rfl (by kernel_rfl) (by kernel_rfl) (by kernel_rfl) (by kernel_rfl) (fun _ _ _ h => h) (by assumption) (Or.inl ⟨by rfl, ?hy142⟩) (fun _ => rfl) ?rest142
             case hy142 => (intro w hSw; (try dsimp only at hSw); go_simp; try with_reducible rfl))
          | (refine ordS_take (i := 11) (oi := { dst := some 109, op := Op.load 37 (Operand.tmp 108), type := 37, pos := _, after := #[{ on := 10, ground := Ground.data }, { on := 6, ground := Ground.guard }], guard := some (6, false) }) (v := undef) rfl (by kernel_rfl) (by kernel_rfl) (by kernel_rfl) (by kernel_rfl) (fun _ _ _ h => h) (by assumption) (Or.inr ⟨by rfl, rfl⟩) (fun _ => rfl) ?_)
        try simp only [Act.put, List.setIfInBounds_toArray, List.set_cons_zero, List.set_cons_succ]
        first
          | (refine' ordS_take (i := 12) (oi := { dst := some 110, op := Op.move (Operand.tmp 2), type := 3, pos := _, after := #[{ on := 6, ground := Ground.guard }], guard := some (6, false) }) (v := _) rfl (by kernel_rfl) (by kernel_rfl) (by kernel_rfl) (by kernel_rfl) (fun _ _ _ h => h) (by assumption) (Or.inl ⟨by rfl, ?hy143⟩) (fun _ => rfl) ?rest143
             case hy143 => (intro w hSw; (try dsimp only at hSw); go_simp; try with_reducible rfl))
          | (refine ordS_take (i := 12) (oi := { dst := some 110, op := Op.move (Operand.tmp 2), type := 3, pos := _, after := #[{ on := 6, ground := Ground.guard }], guard := some (6, false) }) (v := undef) rfl (by kernel_rfl) (by kernel_rfl) (by kernel_rfl) (by kernel_rfl) (fun _ _ _ h => h) (by assumption) (Or.inr ⟨by rfl, rfl⟩) (fun _ => rfl) ?_)
        try simp only [Act.put, List.setIfInBounds_toArray, List.set_cons_zero, List.set_cons_succ]
        refine ordS_one (i := 13) (o := { dst := some 111, op := Op.call { callee := Callee.value (Operand.func 22), args := #[Operand.tmp 106, Operand.tmp 109, Operand.tmp 110], argTypes := #[26, 37, 3] }, type := 39, pos := _, after := #[{ on := 8, ground := Ground.data }, { on := 11, ground := Ground.data }, { on := 12, ground := Ground.data }, { on := 6, ground := Ground.chain }, { on := 6, ground := Ground.guard }], guard := some (6, false) }) (by kernel_rfl) rfl (by rfl) (fun K hK => ?_)
        go_simp
        refine ⟨trivial, ?_⟩
        with_reducible refine (callsIn_wide.2 (rvisible_any A B r x y a c fs _ (hr.below (bl_tr hA7 hD)) hu hmay HAREA.out HXI.out h0 h16)).mono ?_
        rintro e w8 ⟨b8, q8, rfl, hm8, _, _, _, hb8⟩
        rw [HVS.out] at hm8
        have hb8' := bl_tr hD hb8
        replace f0 := cell_later hb8' f0
        replace f1 := cell_later hb8' f1
        replace f2 := cell_later hb8' f2
        replace p0 := cell_later hb8' p0
        replace p1 := cell_later hb8' p1
        have hS8 : (fun w' : World => w'.cell? ⟨w.heap.size, 0, none⟩ = some (.int .i64 A) ∧ w'.cell? ⟨w.heap.size, 1, none⟩ = some (.int .i64 B) ∧ w'.cell? ⟨w.heap.size, 2, none⟩ = some (.slice a fs.length c) ∧ w'.cell? ⟨gz, oz, none⟩ = some (.int .i64 x) ∧ w'.cell? ⟨gz, oz + 1, none⟩ = some (.int .i64 y)) w8 := ⟨f0, f1, f2, p0, p1⟩
        have hA8 := bl_tr hA7 hb8'
        replace hm7 := hm7.below hb8'
        refine hK _ _ hS8 ?_
        clear hK K hH hb8 hb8' hD
        try simp only [Act.put, List.setIfInBounds_toArray, List.set_cons_zero, List.set_cons_succ]
        refine ordS_one (i := 14) (o := { dst := some 112, op := Op.call { callee := Callee.value (Operand.func 19), args := #[Operand.tmp 105, Operand.tmp 111], argTypes := #[30, 39] }, type := 4, pos := _, after := #[{ on := 7, ground := Ground.data }, { on := 13, ground := Ground.data }, { on := 13, ground := Ground.chain }, { on := 6, ground := Ground.guard }], guard := some (6, false) }) (by kernel_rfl) rfl (by rfl) (fun K hK => ?_)
        go_simp
        refine ⟨trivial, ?_⟩
        with_reducible refine (callsIn_wide.2 (told_any b7 q7 b8 q8 A B vs _ hm7 hm8 hgv)).mono ?_
        rintro e w9 ⟨rfl, hb9⟩
        have hS9 : (fun w' : World => w'.cell? ⟨w.heap.size, 0, none⟩ = some (.int .i64 A) ∧ w'.cell? ⟨w.heap.size, 1, none⟩ = some (.int .i64 B) ∧ w'.cell? ⟨w.heap.size, 2, none⟩ = some (.slice a fs.length c) ∧ w'.cell? ⟨gz, oz, none⟩ = some (.int .i64 x) ∧ w'.cell? ⟨gz, oz + 1, none⟩ = some (.int .i64 y)) w9 := ⟨cell_later hb9 f0, cell_later hb9 f1, cell_later hb9 f2, cell_later hb9 p0, cell_later hb9 p1⟩
        have hA9 := bl_tr hA8 hb9
        refine hK _ _ hS9 ?_
        clear hK K hb9 hS8
        try simp only [Act.put, List.setIfInBounds_toArray, List.set_cons_zero, List.set_cons_succ]
        first
          | (refine' ordS_take (i := 15) (oi := { dst := some 113, op := Op.unOp UnOp.not 4 (Operand.tmp 112), type := 4, pos := _, after := #[{ on := 14, ground := Ground.data }, { on := 6, ground := Ground.guard }], guard := some (6, false) }) (v := _) rfl (by kernel_rfl) (by kernel_rfl) (by kernel_rfl) (by kernel_rfl) (fun _ _ _ h => h) (by assumption) (Or.inl ⟨by rfl, ?hy144⟩) (fun _ => rfl) ?rest144
             case hy144 => (intro w hSw; (try dsimp only at hSw); go_simp; try with_reducible rfl))
          | (refine ordS_take (i := 15) (oi := { dst := some 113, op := Op.unOp UnOp.not 4 (Operand.tmp 112), type := 4, pos := _, after := #[{ on := 14, ground := Ground.data }, { on := 6, ground := Ground.guard }], guard := some (6, false) }) (v := undef) rfl (by kernel_rfl) (by kernel_rfl) (by kernel_rfl) (by kernel_rfl) (fun _ _ _ h => h) (by assumption) (Or.inr ⟨by rfl, rfl⟩) (fun _ => rfl) ?_)
        try simp only [Act.put, List.setIfInBounds_toArray, List.set_cons_zero, List.set_cons_succ]
        first
          | (refine' ordS_take (i := 16) (oi := { dst := some 114, op := Op.pick (Operand.tmp 104) (Operand.const (Value.bool true)) (Operand.tmp 113), type := 4, pos := _, after := #[{ on := 6, ground := Ground.data }, { on := 15, ground := Ground.data }], guard := none }) (v := _) rfl (by kernel_rfl) (by kernel_rfl) (by kernel_rfl) (by kernel_rfl) (fun _ _ _ h => h) (by assumption) (Or.inl ⟨by rfl, ?hy145⟩) (fun _ => rfl) ?rest145
             case hy145 => (intro w hSw; (try dsimp only at hSw); go_simp; try with_reducible rfl))
          | (refine ordS_take (i := 16) (oi := { dst := some 114, op := Op.pick (Operand.tmp 104) (Operand.const (Value.bool true)) (Operand.tmp 113), type := 4, pos := _, after := #[{ on := 6, ground := Ground.data }, { on := 15, ground := Ground.data }], guard := none }) (v := undef) rfl (by kernel_rfl) (by kernel_rfl) (by kernel_rfl) (by kernel_rfl) (fun _ _ _ h => h) (by assumption) (Or.inr ⟨by rfl, rfl⟩) (fun _ => rfl) ?_)
        try simp only [Act.put, List.setIfInBounds_toArray, List.set_cons_zero, List.set_cons_succ]
        refine ordS_done (by kernel_rfl) ?_
        clear hS9 f0 f1 f2 p0 p1
        go_wp2_with fail
        refine (awake_any _).mono ?_
        rintro e w10 ⟨rfl, hb10⟩
        have hA10 := bl_tr hA9 hb10
        clear hb10 hA9
        go_wp2
        go_ret
        exact ⟨rfl, hA10⟩

theorem sees_walk (A B r : Int) (a a2 : Option Addr) (c c2 : Nat) (fs : List Int) (zs : List (Int × Int)) (w : World) (hr : RowH w a fs) (hu : AllH fs) (hz : RowC w a2 zs) :
    Calls Try.prog 3 #[.agg #[.int .i64 A, .int .i64 B, .slice a fs.length c], .slice a2 zs.length c2, .int .i64 r] w fun e w' => e = .returned (.bool true) ∧ Below w.heap.size w w' := by
  cases h1 : smallB A B fs.length with
  | false => exact sees_out1 A B r a a2 _ c c2 zs w h1
  | true =>
  by_cases hl : zs.length ≤ 6
  · by_cases he : errA A B fs.length r zs = 0
    · exact sees_ok A B r a a2 c c2 fs zs w hr hu hz h1 hl he
    · exact sees_err A B r a a2 c c2 fs zs w hz h1 hl he
  · exact sees_out2 A B r a a2 _ c c2 zs w h1 (by omega)
end Go.Proofs.Ythebiibiapjdiaa
