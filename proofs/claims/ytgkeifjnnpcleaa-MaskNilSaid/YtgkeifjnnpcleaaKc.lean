/- Package mask: Has, Set off the map, of nothing, and Size. -/
import Derived.Test.YtgkeifjnnpcleaaKb
namespace Go.Proofs.Ytgkeifjnnpcleaa
open Go.RowKit

set_option maxHeartbeats 1600000 in
theorem has_yes (b h : Nat) (X Y x y : Int) (bs : List Nat) (w : World) (hm : MaskAt w b h X Y bs) (hg : Good X Y bs) (hi : inB X Y x y = true) :
    Calls Try.prog 16 #[.pointer (some ⟨b, 0, none⟩), .agg #[.int .i64 x, .int .i64 y]] w fun e w' => e = .returned (.bool (bitAt bs (y * X + x).toNat)) ∧ Below w.heap.size w w' := by
  obtain ⟨i0, i1⟩ := idx_lt hi
  have hix := hg.idx hi
  obtain ⟨o, ho⟩ : ∃ o, bs[(y * X + x).toNat / 8]? = some o := ⟨_, List.getElem?_eq_getElem hix⟩
  have hod : bs.getD ((y * X + x).toNat / 8) 0 = o := by rw [List.getD_eq_getElem?_getD, ho]; rfl
  have hob : o < 256 := hg.2.2.1 o (List.mem_of_getElem? ho)
  have hk : (y * X + x).toNat / 8 = ((y * X + x) / 8).toNat := by omega
  have hp := pow8 (y * X + x).toNat
  have hp2 : (2 : Int) ^ ((y * X + x) % 8).toNat % 256 = ((2 ^ ((y * X + x).toNat % 8) : Nat) : Int) := by
    have e1 : ((y * X + x) % 8).toNat = (y * X + x).toNat % 8 := by omega
    have e2 : ((2 ^ ((y * X + x).toNat % 8) : Nat) : Int) = (2 : Int) ^ ((y * X + x).toNat % 8) := by simp
    rw [e1, ← e2]; exact Int.emod_eq_of_lt (Int.natCast_nonneg _) (Int.ofNat_lt.2 hp)
  have hb2 : (bits .and .u8 (o : Int) ((2 : Int) ^ ((y * X + x) % 8).toNat % 256) != 0) = bitAt bs (y * X + x).toNat := by
    rw [hp2, u8_and _ _ hob hp]
    unfold bitAt
    rw [hod, ← and_pow_bit]
    rw [Bool.eq_iff_iff]
    simp only [bne_iff_ne, ne_eq]
    omega
  have HB := Lib.hid hb2
  rw [hk] at ho hix
  have c0 := hm.c0
  have c1 := hm.c1
  have c2 := hm.c2
  have q := hm.at ho
  have z0 := hm.lt.1
  have z1 := hm.lt.2
  have k0 : 0 ≤ (y * X + x) / 8 := by omega
  have k1 : (y * X + x) / 8 < (bs.length : Int) := by omega
  have i2 : y * X + x ≤ 65536 := by
    obtain ⟨h1, h2, h3, h4, h5, h6, h7, h8⟩ := inB_iff.1 hi
    have := (mul_bd h7 (by omega) h1 h2).2
    omega
  clear hb2 hp2 hod hk ho hp hob
  go_enter Try.func16, Try.ntmps16
  go_wp2_with fail
  obtain ⟨w1, hw1⟩ : ∃ w1, w.alloc (.cells #[.int .i64 x, .int .i64 y] 36) = w1 := ⟨_, rfl⟩
  have hb1 : Below w.heap.size w w1 := by rw [← hw1]; exact bl_al (bl0 _) _
  have d0 : w1.cell? ⟨w.heap.size, 0, none⟩ = some (.int .i64 x) := by rw [← hw1]; simp [go_sem]
  have d1 : w1.cell? ⟨w.heap.size, 1, none⟩ = some (.int .i64 y) := by rw [← hw1]; simp [go_sem]
  replace c0 := cell_later hb1 c0
  replace c1 := cell_later hb1 c1
  replace c2 := cell_later hb1 c2
  replace q := cell_later hb1 q
  rw [hw1]
  clear hw1
  have hA := bl_dr (bl0 w1)
  go_region_held3 (fun w' => w'.cell? ⟨b, 0, none⟩ = some (.int .i64 X) ∧ w'.cell? ⟨b, 1, none⟩ = some (.int .i64 Y) ∧ w'.cell? ⟨w.heap.size, 0, none⟩ = some (.int .i64 x) ∧ w'.cell? ⟨w.heap.size, 1, none⟩ = some (.int .i64 y))
    (exact ⟨cell_later hA c0, cell_later hA c1, cell_later hA d0, cell_later hA d1⟩)
    ((go_at_call 35; refine (index_yes _ _ _ _ _ hi).mono ?_; rintro e W2 ⟨rfl, hb⟩; replace hA := bl_tr hA hb; clear hb))
  replace c2 := cell_later hA c2
  replace q := cell_later hA q
  clear c0 c1 d0 d1
  go_wp2_with fail
  refine (place_any _ _ i0 i2).mono ?_
  rintro e W3 ⟨rfl, hb⟩
  replace c2 := cell_later hb c2
  replace q := cell_later hb q
  have hB3 := bl_tr (bl_tr hb1 hA) hb
  clear hm hb hA hb1
  go_wp2
  go_ret
  exact ⟨ret_bool HB.out, hB3⟩

set_option maxHeartbeats 1600000 in
theorem has_no (b h : Nat) (X Y x y : Int) (bs : List Nat) (w : World) (hm : MaskAt w b h X Y bs) (hi : inB X Y x y = false) :
    Calls Try.prog 16 #[.pointer (some ⟨b, 0, none⟩), .agg #[.int .i64 x, .int .i64 y]] w fun e w' => e = .returned (.bool false) ∧ Below w.heap.size w w' := by
  have c0 := hm.c0
  have c1 := hm.c1
  have z0 := hm.lt.1
  clear hm
  go_enter Try.func16, Try.ntmps16
  go_wp2_with fail
  obtain ⟨w1, hw1⟩ : ∃ w1, w.alloc (.cells #[.int .i64 x, .int .i64 y] 36) = w1 := ⟨_, rfl⟩
  have hb1 : Below w.heap.size w w1 := by rw [← hw1]; exact bl_al (bl0 _) _
  have d0 : w1.cell? ⟨w.heap.size, 0, none⟩ = some (.int .i64 x) := by rw [← hw1]; simp [go_sem]
  have d1 : w1.cell? ⟨w.heap.size, 1, none⟩ = some (.int .i64 y) := by rw [← hw1]; simp [go_sem]
  replace c0 := cell_later hb1 c0
  replace c1 := cell_later hb1 c1
  rw [hw1]
  clear hw1
  have hA := bl_dr (bl0 w1)
  go_region_held3 (fun w' => w'.cell? ⟨b, 0, none⟩ = some (.int .i64 X) ∧ w'.cell? ⟨b, 1, none⟩ = some (.int .i64 Y) ∧ w'.cell? ⟨w.heap.size, 0, none⟩ = some (.int .i64 x) ∧ w'.cell? ⟨w.heap.size, 1, none⟩ = some (.int .i64 y))
    (exact ⟨cell_later hA c0, cell_later hA c1, cell_later hA d0, cell_later hA d1⟩)
    ((go_at_call 35; refine (index_no _ _ _ _ _ hi).mono ?_; rintro e W2 ⟨rfl, hb⟩; replace hA := bl_tr hA hb; clear hb))
  clear c0 c1 d0 d1
  go_wp2
  go_ret
  exact ⟨rfl, bl_tr hb1 hA⟩

set_option maxHeartbeats 1600000 in
theorem set_no (b h : Nat) (X Y x y : Int) (bs : List Nat) (v : Bool) (w : World) (hm : MaskAt w b h X Y bs) (hi : inB X Y x y = false) :
    Calls Try.prog 14 #[.pointer (some ⟨b, 0, none⟩), .agg #[.int .i64 x, .int .i64 y], .bool v] w fun e w' => e = .returned (.int .i64 10) ∧ Below w.heap.size w w' := by
  have c0 := hm.c0
  have c1 := hm.c1
  have z0 := hm.lt.1
  clear hm
  go_enter Try.func14, Try.ntmps14
  go_wp2_with fail
  obtain ⟨w1, hw1⟩ : ∃ w1, w.alloc (.cells #[.int .i64 x, .int .i64 y] 36) = w1 := ⟨_, rfl⟩
  have hb1 : Below w.heap.size w w1 := by rw [← hw1]; exact bl_al (bl0 _) _
  have d0 : w1.cell? ⟨w.heap.size, 0, none⟩ = some (.int .i64 x) := by rw [← hw1]; simp [go_sem]
  have d1 : w1.cell? ⟨w.heap.size, 1, none⟩ = some (.int .i64 y) := by rw [← hw1]; simp [go_sem]
  replace c0 := cell_later hb1 c0
  replace c1 := cell_later hb1 c1
  rw [hw1]
  clear hw1
  have hA := bl_dr (bl0 w1)
  go_region_held3 (fun w' => w'.cell? ⟨b, 0, none⟩ = some (.int .i64 X) ∧ w'.cell? ⟨b, 1, none⟩ = some (.int .i64 Y) ∧ w'.cell? ⟨w.heap.size, 0, none⟩ = some (.int .i64 x) ∧ w'.cell? ⟨w.heap.size, 1, none⟩ = some (.int .i64 y))
    (exact ⟨cell_later hA c0, cell_later hA c1, cell_later hA d0, cell_later hA d1⟩)
    ((go_at_call 35; refine (index_no _ _ _ _ _ hi).mono ?_; rintro e W2 ⟨rfl, hb⟩; replace hA := bl_tr hA hb; clear hb))
  clear c0 c1 d0 d1
  go_wp2
  go_ret
  exact ⟨rfl, bl_tr hb1 hA⟩

set_option maxHeartbeats 400000 in
theorem has_nil (x y : Int) (w : World) :
    Calls Try.prog 16 #[.pointer none, .agg #[.int .i64 x, .int .i64 y]] w fun e w' => e = .returned (.bool false) ∧ Below w.heap.size w w' := by
  go_enter Try.func16, Try.ntmps16
  go_wp2
  go_ret
  exact ⟨rfl, bl_al (bl0 _) _⟩

set_option maxHeartbeats 400000 in
theorem set_nil (x y : Int) (v : Bool) (w : World) :
    Calls Try.prog 14 #[.pointer none, .agg #[.int .i64 x, .int .i64 y], .bool v] w fun e w' => e = .returned (.int .i64 2) ∧ Below w.heap.size w w' := by
  go_enter Try.func14, Try.ntmps14
  go_wp2
  go_ret
  exact ⟨rfl, bl_al (bl0 _) _⟩

set_option maxHeartbeats 400000 in
theorem size_any (b h : Nat) (X Y : Int) (bs : List Nat) (w : World) (hm : MaskAt w b h X Y bs) :
    Calls Try.prog 13 #[.pointer (some ⟨b, 0, none⟩)] w fun e w' => e = .returned (.agg #[.int .i64 X, .int .i64 Y]) ∧ Below w.heap.size w w' := by
  have c0 := hm.c0
  have c1 := hm.c1
  have z0 := hm.lt.1
  clear hm
  go_enter Try.func13, Try.ntmps13
  go_wp2
  refine bodyPost_ret (v := .agg #[.int .i64 X, .int .i64 Y]) (by simp [results, Try.results13, go_sem]) rfl ⟨rfl, ?_⟩
  exact bl_al (bl0 _) _

set_option maxHeartbeats 400000 in
theorem size_nil (w : World) :
    Calls Try.prog 13 #[.pointer none] w fun e w' => e = .returned (.agg #[.int .i64 0, .int .i64 0]) ∧ Below w.heap.size w w' := by
  go_enter Try.func13, Try.ntmps13
  go_wp2
  refine bodyPost_ret (v := .agg #[.int .i64 0, .int .i64 0]) (by simp [results, Try.results13, go_sem]) rfl ⟨rfl, ?_⟩
  exact bl_al (bl0 _) _
end Go.Proofs.Ytgkeifjnnpcleaa
