/- Package mask: how a set lies in memory; Set and Has. -/
import Derived.Test.YtgkeifjnnpcleaaKa
import Derived.Test.YtgkeifjnnpcleaaKm
import Derived.Deep.RegionHeld3
import Derived.Deep.CutRange
import Derived.Laws.AppendOwn
import Derived.Laws.Rows
import Derived.Lib.Hide
namespace Go.Proofs.Ytgkeifjnnpcleaa
open Go.RowKit

/-- A set at block b, its bytes at block h. -/
def MaskAt (W : World) (b h : Nat) (X Y : Int) (bs : List Nat) : Prop :=
  W.heap[b]? = some (.cells #[.int .i64 X, .int .i64 Y, .slice (some ⟨h, 0, none⟩) bs.length bs.length] 76 (0, 0)) ∧
  W.heap[h]? = some (.cells (bs.map (fun x : Nat => Value.int .u8 (x : Int))).toArray 5 (0, 0))
theorem MaskAt.c0 {W : World} {b h : Nat} {X Y : Int} {bs : List Nat} (m : MaskAt W b h X Y bs) : W.cell? ⟨b, 0, none⟩ = some (.int .i64 X) := by simp [World.cell?, m.1]
theorem MaskAt.c1 {W : World} {b h : Nat} {X Y : Int} {bs : List Nat} (m : MaskAt W b h X Y bs) : W.cell? ⟨b, 1, none⟩ = some (.int .i64 Y) := by simp [World.cell?, m.1]
theorem MaskAt.c2 {W : World} {b h : Nat} {X Y : Int} {bs : List Nat} (m : MaskAt W b h X Y bs) : W.cell? ⟨b, 2, none⟩ = some (.slice (some ⟨h, 0, none⟩) bs.length bs.length) := by simp [World.cell?, m.1]
theorem MaskAt.at {W : World} {b h k : Nat} {X Y : Int} {bs : List Nat} (m : MaskAt W b h X Y bs) {x : Nat} (hk : bs[k]? = some x) : W.cell? ⟨h, k, none⟩ = some (.int .u8 (x : Int)) := by simp [World.cell?, m.2, hk]
theorem MaskAt.fz {W : World} {b h k : Nat} {X Y : Int} {bs : List Nat} (m : MaskAt W b h X Y bs) : W.frozen? ⟨h, k, none⟩ = false := by simp [World.frozen?, m.2]
theorem MaskAt.lt {W : World} {b h : Nat} {X Y : Int} {bs : List Nat} (m : MaskAt W b h X Y bs) : b < W.heap.size ∧ h < W.heap.size := ⟨(Array.getElem?_eq_some_iff.1 m.1).1, (Array.getElem?_eq_some_iff.1 m.2).1⟩
theorem MaskAt.kept {W W' : World} {row : Option Nat} {b h : Nat} {X Y : Int} {bs : List Nat} (m : MaskAt W b h X Y bs) (hg : W.grownBy W' row) (hb : some b ≠ row) (hh : some h ≠ row) : MaskAt W' b h X Y bs :=
  ⟨(hg.block b m.lt.1 hb).trans m.1, (hg.block h m.lt.2 hh).trans m.2⟩
theorem MaskAt.below {W W' : World} {b h : Nat} {X Y : Int} {bs : List Nat} (m : MaskAt W b h X Y bs) (hb : Below W.heap.size W W') : MaskAt W' b h X Y bs :=
  ⟨(hb.block b m.lt.1).trans m.1, (hb.block h m.lt.2).trans m.2⟩

theorem grown_of_below {W W' : World} (h : Below W.heap.size W W') : W.grownBy W' none := ⟨h.os, h.tape, h.output, h.size, fun k hk _ => h.block k hk⟩
theorem grown_tr {A B C : World} {row : Option Nat} (h : A.grownBy B row) (k : B.grownBy C row) : A.grownBy C row :=
  ⟨k.os.trans h.os, k.tape.trans h.tape, k.output.trans h.output, Nat.le_trans h.size k.size, fun i hi hr => (k.block i (Nat.lt_of_lt_of_le hi h.size) hr).trans (h.block i hi hr)⟩
theorem grown_weak {A B : World} (h : A.grownBy B none) (row : Option Nat) : A.grownBy B row := ⟨h.os, h.tape, h.output, h.size, fun i hi _ => h.block i hi (by simp)⟩
theorem grown_set (W : World) (h k : Nat) (u : Value) : W.grownBy (W.setCell ⟨h, k, none⟩ u) (some h) :=
  ⟨rfl, rfl, rfl, by simp, fun i _ hi => Below.heap_setCell _ _ _ i (fun e => hi (by rw [e]))⟩

/-- What a set's bytes are: as many as its cells need, and no bit beyond its cells. -/
def Good (X Y : Int) (bs : List Nat) : Prop := mayB X Y = true ∧ (bs.length : Int) = (X * Y + 7) / 8 ∧ IsBytes bs ∧ ∀ i : Nat, X * Y ≤ (i : Int) → bitAt bs i = false

theorem idx_lt {X Y x y : Int} (hi : inB X Y x y = true) : 0 ≤ y * X + x ∧ y * X + x < X * Y := by
  obtain ⟨h1, h2, h3, h4, h5, h6, h7, h8⟩ := inB_iff.1 hi
  have a : 0 ≤ y * X := Int.mul_nonneg h7 (by omega)
  have b : (y + 1) * X ≤ Y * X := Int.mul_le_mul_of_nonneg_right (by omega) (by omega)
  rw [Int.add_mul, Int.one_mul] at b
  rw [Int.mul_comm X Y]
  omega
theorem Good.idx {X Y x y : Int} {bs : List Nat} (g : Good X Y bs) (hi : inB X Y x y = true) : (y * X + x).toNat / 8 < bs.length := by
  obtain ⟨a, b⟩ := idx_lt hi
  have := g.2.1
  omega
theorem Good.small {X Y : Int} {bs : List Nat} (g : Good X Y bs) : bs.length ≤ 65536 := by
  obtain ⟨h1, h2, h3, h4⟩ := mayB_iff.1 g.1
  have a : X * Y ≤ 256 * Y := Int.mul_le_mul_of_nonneg_right h2 (by omega)
  have := g.2.1
  omega
theorem Good.set {X Y x y : Int} {bs : List Nat} (g : Good X Y bs) (hi : inB X Y x y = true) (v : Bool) : Good X Y (setB bs (y * X + x).toNat v) := by
  obtain ⟨a, b⟩ := idx_lt hi
  refine ⟨g.1, by rw [setB_len]; exact g.2.1, setB_bytes g.2.2.1 _ _, fun i hX => ?_⟩
  rw [bitAt_setB _ _ _ (g.idx hi), if_neg (by omega)]
  exact g.2.2.2 i hX

theorem heap_set_same (w : World) (g i : Nat) (cs : Array Value) (t : TypeId) (v : Value) (hg : w.heap[g]? = some (.cells cs t (0, 0))) : (w.setCell ⟨g, i, none⟩ v).heap[g]? = some (.cells (cs.setIfInBounds i v) t (0, 0)) := heap_setCell_same w g i cs t v hg
theorem MaskAt.set {W : World} {b h : Nat} {X Y : Int} {bs : List Nat} (m : MaskAt W b h X Y bs) (hne : b ≠ h) (n : Nat) (v : Bool) {u : Int} (hu : u = ((if v then bs.getD (n / 8) 0 ||| 2 ^ (n % 8) else bs.getD (n / 8) 0 &&& (255 - 2 ^ (n % 8)) : Nat) : Int)) :
    MaskAt (W.setCell ⟨h, n / 8, none⟩ (.int .u8 u)) b h X Y (setB bs n v) := by
  subst hu
  refine ⟨(Below.heap_setCell _ _ _ b (show b ≠ h from hne)).trans (by rw [setB_len]; exact m.1), ?_⟩
  rw [heap_set_same _ _ _ _ _ _ m.2]
  simp [setB, List.map_set]

set_option maxHeartbeats 1600000 in
theorem set_yes (b h : Nat) (X Y x y : Int) (bs : List Nat) (v : Bool) (w : World) (hm : MaskAt w b h X Y bs) (hg : Good X Y bs) (hne : b ≠ h) (hi : inB X Y x y = true) :
    Calls Try.prog 14 #[.pointer (some ⟨b, 0, none⟩), .agg #[.int .i64 x, .int .i64 y], .bool v] w fun e w' => e = .returned (.int .i64 0) ∧ MaskAt w' b h X Y (setB bs (y * X + x).toNat v) ∧ w.grownBy w' (some h) := by
  obtain ⟨i0, i1⟩ := idx_lt hi
  have hix := hg.idx hi
  obtain ⟨o, ho⟩ : ∃ o, bs[(y * X + x).toNat / 8]? = some o := ⟨_, List.getElem?_eq_getElem hix⟩
  have hod : bs.getD ((y * X + x).toNat / 8) 0 = o := by rw [List.getD_eq_getElem?_getD, ho]; rfl
  have hob : o < 256 := hg.2.2.1 o (List.mem_of_getElem? ho)
  have hk : (y * X + x).toNat / 8 = ((y * X + x) / 8).toNat := by omega
  have hp := pow8 (y * X + x).toNat
  have hp2 : (2 : Int) ^ ((y * X + x) % 8).toNat % 256 = ((2 ^ ((y * X + x).toNat % 8) : Nat) : Int) := by
    have e1 : ((y * X + x) % 8).toNat = (y * X + x).toNat % 8 := by omega
    have e2 : ((2 ^ ((y * X + x).toNat % 8) : Nat) : Int) = (2 : Int) ^ ((y * X + x).toNat % 8) := by simp
    rw [e1, ← e2]; exact Int.emod_eq_of_lt (Int.natCast_nonneg _) (Int.ofNat_lt.2 hp)
  have hor : v = true → bits .or .u8 (o : Int) ((2 : Int) ^ ((y * X + x) % 8).toNat % 256) = ((if v then bs.getD ((y * X + x).toNat / 8) 0 ||| 2 ^ ((y * X + x).toNat % 8) else bs.getD ((y * X + x).toNat / 8) 0 &&& (255 - 2 ^ ((y * X + x).toNat % 8)) : Nat) : Int) := by
    intro hv; rw [hp2, u8_or _ _ hob hp, hod, hv]; rfl
  have han : v = false → bits .andNot .u8 (o : Int) ((2 : Int) ^ ((y * X + x) % 8).toNat % 256) = ((if v then bs.getD ((y * X + x).toNat / 8) 0 ||| 2 ^ ((y * X + x).toNat % 8) else bs.getD ((y * X + x).toNat / 8) 0 &&& (255 - 2 ^ ((y * X + x).toNat % 8)) : Nat) : Int) := by
    intro hv; rw [hp2, u8_andNot _ _ hob hp, hod, hv]; rfl
  have HO := Lib.hid hor
  have HN := Lib.hid han
  have HK := Lib.hid hk
  rw [hk] at ho hix
  have c0 := hm.c0
  have c1 := hm.c1
  have c2 := hm.c2
  have q := hm.at ho
  have fz := hm.fz (k := ((y * X + x) / 8).toNat)
  have z0 := hm.lt.1
  have z1 := hm.lt.2
  have k0 : 0 ≤ (y * X + x) / 8 := by omega
  have k1 : (y * X + x) / 8 < (bs.length : Int) := by omega
  have i2 : y * X + x ≤ 65536 := by
    obtain ⟨h1, h2, h3, h4, h5, h6, h7, h8⟩ := inB_iff.1 hi
    have := (mul_bd h7 (by omega) h1 h2).2
    omega
  clear hor han hp2 hod hk ho hp hob
  go_enter Try.func14, Try.ntmps14
  go_wp2_with fail
  obtain ⟨w1, hw1⟩ : ∃ w1, w.alloc (.cells #[.int .i64 x, .int .i64 y] 36) = w1 := ⟨_, rfl⟩
  have hb1 : Below w.heap.size w w1 := by rw [← hw1]; exact bl_al (bl0 _) _
  have d0 : w1.cell? ⟨w.heap.size, 0, none⟩ = some (.int .i64 x) := by rw [← hw1]; simp [go_sem]
  have d1 : w1.cell? ⟨w.heap.size, 1, none⟩ = some (.int .i64 y) := by rw [← hw1]; simp [go_sem]
  replace fz := frozen_later hb1 q fz
  replace c0 := cell_later hb1 c0
  replace c1 := cell_later hb1 c1
  replace c2 := cell_later hb1 c2
  replace q := cell_later hb1 q
  rw [hw1]
  clear hw1
  have hA := bl_dr (bl0 w1)
  go_region_held3 (fun w' => w'.cell? ⟨b, 0, none⟩ = some (.int .i64 X) ∧ w'.cell? ⟨b, 1, none⟩ = some (.int .i64 Y) ∧ w'.cell? ⟨w.heap.size, 0, none⟩ = some (.int .i64 x) ∧ w'.cell? ⟨w.heap.size, 1, none⟩ = some (.int .i64 y))
    (exact ⟨cell_later hA c0, cell_later hA c1, cell_later hA d0, cell_later hA d1⟩)
    ((go_at_call 35; refine (index_yes _ _ _ _ _ hi).mono ?_; rintro e W2 ⟨rfl, hb⟩; replace hA := bl_tr hA hb; clear hb))
  replace fz := frozen_later hA q fz
  replace c2 := cell_later hA c2
  replace q := cell_later hA q
  clear c0 c1 d0 d1
  go_wp2_with fail
  refine (place_any _ _ i0 i2).mono ?_
  rintro e W3 ⟨rfl, hb⟩
  replace fz := frozen_later hb q fz
  replace c2 := cell_later hb c2
  replace q := cell_later hb q
  have hm3 := ((hm.below hb1).below hA).below hb
  have hB3 := bl_tr (bl_tr hb1 hA) hb
  have HM := Lib.hid hm3
  clear hm hm3 hb hA hb1
  cases v
  case' true =>
    go_wp2
    go_ret
    have hm4 := HM.out.set hne (y * X + x).toNat true (HO.out (by trivial))
    rw [HK.out] at hm4
    exact ⟨rfl, hm4, grown_tr (grown_weak (grown_of_below hB3) _) (grown_set _ _ _ _)⟩
  case' false =>
    go_wp2
    go_ret
    have hm4 := HM.out.set hne (y * X + x).toNat false (HN.out (by trivial))
    rw [HK.out] at hm4
    exact ⟨rfl, hm4, grown_tr (grown_weak (grown_of_below hB3) _) (grown_set _ _ _ _)⟩
end Go.Proofs.Ytgkeifjnnpcleaa
