/- Package mask: Of, of bytes that are right. -/
import Derived.Test.YtgkeifjnnpcleaaKe
namespace Go.Proofs.Ytgkeifjnnpcleaa
open Go.RowKit

/-- copy of as many bytes as there is room for, from anywhere. -/
theorem copy_from (V : World) (g h o c c2 : Nat) (cs : List Value) (cur : Array Value) (hcur : cur.size = cs.length) (hg : V.heap[g]? = some (.cells cur 5 (0, 0))) (hh : ∀ (j : Nat) u, cs[j]? = some u → V.cell? ⟨h, o + j, none⟩ = some u) (h1 : ∀ v ∈ cs, v.oneCell' = true) :
    (Builtin.copy_ #[46, 46] 3 #[.slice (some ⟨g, 0, none⟩) cs.length c, .slice (some ⟨h, o, none⟩) cs.length c2]).run Try.prog V = .ok (goInt cs.length) (V.setRow g cs.toArray) := by
  have hs : (Try.prog.info? 5).map (·.size) = some 1 := by kernel_rfl
  have hadd : ∀ j, (⟨h, o, none⟩ : Addr).add j = ⟨h, o + j, none⟩ := fun j => by unfold Addr.add; split <;> simp_all
  have := run_copy_row (P := Try.prog) V 46 46 3 5 g 0 cs.length c ⟨h, o, none⟩ cs.length c2 cur 5 cs Try.underlying46 hs hg (by simp) (fun j u hu => by rw [hadd]; exact hh j u hu) (by omega) h1
  rw [this]
  congr 3
  simp [← hcur]

/-- Bytes lie from a place on. -/
def BytesAt (w : World) (h o : Nat) (bs : List Nat) : Prop := ∀ (j : Nat) (x : Nat), bs[j]? = some x → w.cell? ⟨h, o + j, none⟩ = some (.int .u8 (x : Int))
theorem BytesAt.below {w w' : World} {h o : Nat} {bs : List Nat} (s : BytesAt w h o bs) (hb : Below w.heap.size w w') : BytesAt w' h o bs := fun j x hj => cell_later hb (s j x hj)
/-- A bit of the last byte is no cell's. -/
def spareB (X Y : Int) (bs : List Nat) : Bool := decide (X * Y % 8 ≠ 0 ∧ ((bs.getD (bs.length - 1) 0 : Nat) : Int) / 2 ^ (X * Y % 8).toNat ≠ 0)

set_option maxRecDepth 100000 in
set_option maxHeartbeats 4000000 in
theorem of_yes (X Y : Int) (bs : List Nat) (h o c : Nat) (w : World) (hm : mayB X Y = true) (hlen : (bs.length : Int) = (X * Y + 7) / 8) (hcell : BytesAt w h o bs) (hsp : spareB X Y bs = false) :
    Calls Try.prog 25 #[.agg #[.int .i64 X, .int .i64 Y], .slice (some ⟨h, o, none⟩) bs.length c] w fun e w' => ∃ b g, e = .returned (.tuple #[.pointer (some ⟨b, 0, none⟩), .int .i64 0]) ∧ MaskAt w' b g X Y bs ∧ w.heap.size ≤ b ∧ w.heap.size ≤ g ∧ b ≠ g ∧ Below w.heap.size w w' := by
  obtain ⟨h1, h2, h3, h4⟩ := mayB_iff.1 hm
  obtain ⟨m1, m2⟩ : 1 ≤ X * Y ∧ X * Y ≤ 65536 := ⟨by have := Int.mul_pos (show 0 < X by omega) (show 0 < Y by omega); omega, by have a : X * Y ≤ 256 * Y := Int.mul_le_mul_of_nonneg_right h2 (by omega); omega⟩
  obtain ⟨n, hn⟩ : ∃ n : Nat, bs.length = n := ⟨_, rfl⟩
  rw [hn] at hlen
  have hx := List.getElem?_eq_getElem (l := bs) (i := n - 1) (by omega)
  obtain ⟨x, hxe⟩ : ∃ x, bs[n - 1]'(by omega) = x := ⟨_, rfl⟩
  rw [hxe] at hx
  have hgd : bs.getD (bs.length - 1) 0 = x := by rw [hn, List.getD_eq_getElem?_getD, hx]; rfl
  unfold spareB at hsp
  rw [hgd] at hsp
  have hrep : ((X * Y + 7) / 8).toNat = n := by omega
  have k0 : (0 : Int) ≤ (n : Int) - 1 := by omega
  have k1 : (n : Int) - 1 < (n : Int) := by omega
  have k3 : (n : Int) ≤ 65536 := by omega
  have k4 : (1 : Int) ≤ (n : Int) := by omega
  have k6 : 0 < n := by omega
  have k7 : 1 ≤ n := by omega
  have k8 : (0 : Int) < (n : Int) := by omega
  have k9 : ¬ (n : Int) - 1 < 0 := by omega
  have k10 : n ≠ 0 := by omega
  have k5 : IntKind.i64.wrap ((n : Int) - 1) = (n : Int) - 1 := IntWalk.i64_in _ (by omega)
  have HL := Lib.hid hn
  have hA := bl0 w
  clear hxe
  clear hlen
  go_enter Try.func25, Try.ntmps25
  rw [hn]
  go_wp2_with fail
  have hb0 := bl_al (bl0 w) (.cells #[.int .i64 X, .int .i64 Y] 23)
  have s0 : (w.alloc (.cells #[.int .i64 X, .int .i64 Y] 23)).cell? ⟨w.heap.size, 0, none⟩ = some (.int .i64 X) := by simp [go_sem]
  have s1 : (w.alloc (.cells #[.int .i64 X, .int .i64 Y] 23)).cell? ⟨w.heap.size, 1, none⟩ = some (.int .i64 Y) := by simp [go_sem]
  refine (new_yes X Y _ hm).mono ?_
  rintro e w1 ⟨b, g, rfl, hma, hb1, hg1, hbg, hb⟩
  rw [World.size_alloc] at hb1 hg1
  have hA := bl_tr hb0 hb
  replace s0 := cell_later hb s0
  replace s1 := cell_later hb s1
  have hcell1 := hcell.below hA
  rw [hrep] at hma
  have q := hcell1 (n - 1) x hx
  have c2 := hma.c2
  rw [List.length_replicate] at c2
  clear hb hb0
  go_wp2_with fail
  have hB := bl_dr (bl0 w1)
  have hg1' := hma.lt
  go_region_held3 (fun w2 => w2.cell? ⟨w.heap.size, 0, none⟩ = some (.int .i64 X) ∧ w2.cell? ⟨w.heap.size, 1, none⟩ = some (.int .i64 Y) ∧ w2.cell? ⟨b, 2, none⟩ = some (.slice (some ⟨g, 0, none⟩) n n) ∧ w2.cell? ⟨h, o + (n - 1), none⟩ = some (.int .u8 (x : Int)))
    (exact ⟨cell_later hB s0, cell_later hB s1, cell_later hB c2, cell_later hB q⟩)
    ((go_at_call 44; refine (spare_any _ _ _ _ hm).mono ?_; rintro e W2 ⟨rfl, hb⟩; rw [hsp]; replace hB := bl_tr hB hb; clear hb))
  have hm2 := hma.below hB
  have hcell2 := hcell1.below hB
  have hcp := copy_from W2 g h o n c (bs.map (fun x : Nat => Value.int .u8 (x : Int))) _ (by simp [HL.out]) hm2.2 (fun j u hu => by
      rw [List.getElem?_map, Option.map_eq_some_iff] at hu
      obtain ⟨y, hy, rfl⟩ := hu
      exact hcell2 j y hy) (fun v hv => by
      obtain ⟨y, _, rfl⟩ := List.mem_map.1 hv
      rfl)
  rw [List.length_map, HL.out] at hcp
  have hrow := setRow_heap W2 g _ (bs.map (fun x : Nat => Value.int .u8 (x : Int))).toArray _ _ hm2.2
  have hoth : (W2.setRow g (bs.map (fun x : Nat => Value.int .u8 (x : Int))).toArray).heap[b]? = W2.heap[b]? := setRow_other W2 g b _ hbg
  have hmm : MaskAt (W2.setRow g (bs.map (fun x : Nat => Value.int .u8 (x : Int))).toArray) b g X Y bs := ⟨hoth.trans (by rw [hm2.1, List.length_replicate, HL.out]), hrow⟩
  have hfin : Below w.heap.size w (W2.setRow g (bs.map (fun x : Nat => Value.int .u8 (x : Int))).toArray) := below_setRow (bl_tr hA hB) (by omega) _
  have HM := Lib.hid hmm
  have HF := Lib.hid hfin
  have c3 := hm2.c2
  rw [List.length_replicate] at c3
  clear hmm hfin hrow hoth hm2 hcell2 hcell1 hma hcell
  generalize (bs.map (fun x : Nat => Value.int .u8 (x : Int))).toArray = vs at hcp HM HF
  go_wp2
  go_ret2
  exact ⟨b, g, rfl, HM.out, by omega, by omega, hbg, HF.out⟩
end Go.Proofs.Ytgkeifjnnpcleaa
