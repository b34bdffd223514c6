/- The document's answer for sets: its bytes. -/
import Derived.Test.YtgkeifjnnpcleaaNd
import Derived.Test.YtgkeifjnnpcleaaKd
namespace Go.Proofs.Ytgkeifjnnpcleaa
open Go.RowKit

def twos (k : Nat) : Int := ((2 ^ k : Nat) : Int)
theorem twos_succ (k : Nat) : 2 * twos k = twos (k + 1) := by unfold twos; rw [Nat.pow_succ]; omega
theorem twos_bd {k : Nat} (h : k ≤ 7) : 0 ≤ twos k ∧ twos k ≤ 128 := by
  unfold twos
  have : 2 ^ k ≤ 2 ^ 7 := Nat.pow_le_pow_right (by decide) h
  generalize 2 ^ k = m at *
  omega
theorem twos_bd6 {k : Nat} (h : k < 7) : 0 ≤ 2 * twos k ∧ 2 * twos k ≤ 255 := by
  unfold twos
  have : 2 ^ k ≤ 2 ^ 6 := Nat.pow_le_pow_right (by decide) (by omega)
  generalize 2 ^ k = m at *
  omega
theorem or_adds : ∀ (o : Fin 256) (k : Fin 8), o.val.testBit k.val = false → o.val ||| 2 ^ k.val = o.val + 2 ^ k.val := by decide +kernel
theorem or_add {o k : Nat} (ho : o < 256) (hk : k < 8) (h : o.testBit k = false) : o ||| 2 ^ k = o + 2 ^ k := or_adds ⟨o, ho⟩ ⟨k, hk⟩ h

/-- The bytes of the first i numbers. -/
def bsTo (fs : List Bool) : Nat → List Nat
  | 0 => List.replicate ((fs.length + 7) / 8) 0
  | i + 1 => if fs.getD i false = true then setB (bsTo fs i) i true else bsTo fs i
def bsOf (fs : List Bool) : List Nat := bsTo fs fs.length
theorem bsTo_len (fs : List Bool) : ∀ i, (bsTo fs i).length = (fs.length + 7) / 8
  | 0 => by simp [bsTo]
  | i + 1 => by unfold bsTo; split <;> simp [setB_len, bsTo_len fs i]
theorem bsTo_bytes (fs : List Bool) : ∀ i, IsBytes (bsTo fs i)
  | 0 => fun x hx => by rw [(List.mem_replicate.1 hx).2]; decide
  | i + 1 => by
    unfold bsTo
    split
    · exact setB_bytes (bsTo_bytes fs i) _ _
    · exact bsTo_bytes fs i
theorem bsTo_bit (fs : List Bool) : ∀ i, i ≤ fs.length → ∀ j, bitAt (bsTo fs i) j = (decide (j < i) && fs.getD j false)
  | 0, _, j => by
    unfold bsTo bitAt
    rw [List.getD_eq_getElem?_getD, List.getElem?_replicate]
    split <;> simp
  | i + 1, hi, j => by
    have ih := bsTo_bit fs i (by omega) j
    unfold bsTo
    split
    · rename_i h
      rw [bitAt_setB _ _ _ (by rw [bsTo_len]; omega)]
      by_cases e : j = i
      · subst e; simp only [if_true, show j < j + 1 by omega, decide_true, Bool.true_and, h]
      · rw [if_neg e, ih]
        congr 1
        rw [Bool.eq_iff_iff]; simp; omega
    · rename_i h
      rw [ih]
      by_cases e : j = i
      · subst e; rw [Bool.not_eq_true] at h; rw [h]; simp
      · congr 1
        rw [Bool.eq_iff_iff]; simp; omega
/-- Bytes in a block of their own. -/
def BlockB (W : World) (g : Nat) (bs : List Nat) : Prop := W.heap[g]? = some (.cells (bs.map (fun x : Nat => Value.int .u8 (x : Int))).toArray 5 (0, 0))
theorem BlockB.at {W : World} {g k x : Nat} {bs : List Nat} (h : BlockB W g bs) (hk : bs[k]? = some x) : W.cell? ⟨g, k, none⟩ = some (.int .u8 (x : Int)) := by simp [World.cell?, show W.heap[g]? = _ from h, hk]
theorem BlockB.fz {W : World} {g k : Nat} {bs : List Nat} (h : BlockB W g bs) : W.frozen? ⟨g, k, none⟩ = false := by simp [World.frozen?, show W.heap[g]? = _ from h]
theorem BlockB.set {W : World} {g k x : Nat} {bs : List Nat} (h : BlockB W g bs) {u : Int} (hu : u = (x : Int)) : BlockB (W.setCell ⟨g, k, none⟩ (.int .u8 u)) g (bs.set k x) := by
  subst hu
  unfold BlockB at *
  rw [heap_set_same _ _ _ _ _ _ h]
  simp [List.map_set]
theorem BlockB.bytes {W : World} {g : Nat} {bs : List Nat} (h : BlockB W g bs) : BytesAt W g 0 bs := fun j x hj => by rw [Nat.zero_add]; exact h.at hj

set_option maxRecDepth 100000 in
set_option maxHeartbeats 3200000 in
theorem rbytes_any (b h : Nat) (X Y : Int) (fs : List Bool) (w : World) (hm : RefAt w b h X Y fs) (hl : fs.length ≤ 65536) :
    Calls Try.prog 24 #[.pointer (some ⟨b, 0, none⟩)] w fun e w' => e = .returned (.slice (some ⟨w.heap.size, 0, none⟩) (bsOf fs).length (bsOf fs).length) ∧ BytesAt w' w.heap.size 0 (bsOf fs) ∧ Below w.heap.size w w' := by
  have hl2 : (fs.length : Int) ≤ 65536 := by omega
  obtain ⟨n, hn⟩ : ∃ n, (fs.length + 7) / 8 = n := ⟨_, rfl⟩
  have hmk := fun w => make_u8 n (by omega) w
  have hni : ((fs.length : Int) + 7) / 8 = (n : Int) := by omega
  have hnn : (n : Int) ≤ 8200 := by omega
  have HLN := Lib.hid (show (bsOf fs).length = n by unfold bsOf; rw [bsTo_len, hn])
  have HL := Lib.hid (fun i => (bsTo_len fs i).trans hn)
  have c2 := hm.c2
  have HM := Lib.hid hm
  have h0 : BlockB (w.alloc (.cells (Array.replicate n (Value.int .u8 0)) 5)) w.heap.size (bsTo fs 0) := by
    unfold BlockB bsTo
    rw [heap_alloc_new, hn]
    simp
  have H0 := Lib.hid h0
  rw [HLN.out]
  rw [← hni] at hmk
  have HNI := Lib.hid hni
  have hn8 : n * 8 ≥ fs.length := by omega
  clear h0 hm hn hni
  go_enter Try.func24, Try.ntmps24
  go_wp2
  clear hmk
  rw [HNI.out]
  obtain ⟨g, hg⟩ : ∃ g, w.heap.size = g := ⟨_, rfl⟩
  have hB0 : Below g w (w.alloc (.cells (Array.replicate n (Value.int .u8 0)) 5)) := by rw [← hg]; exact bl_al (bl0 w) _
  rw [hg] at H0
  have HG := Lib.hid hg
  rw [hg]
  clear hg
  have HB0 := Lib.hid hB0
  clear hB0 c2
  go_loopw [4] (fun t wr => ∃ i : Nat, i ≤ fs.length ∧ t = .int .i64 i ∧ BlockB wr g (bsTo fs i) ∧ Below g w wr) (fun t _ => fs.length - (intOf t).toNat)
  case atStart => exact ⟨0, Nat.zero_le _, rfl, H0.out, HB0.out⟩
  case round =>
    clear H0 HB0
    obtain ⟨i, hi, rfl, hbl, hB⟩ := hrel
    have HBL := Lib.hid hbl
    have HB := Lib.hid hB
    have HR := Lib.hid (HM.out.below (by rw [HG.out]; exact hB))
    clear hbl hB
    have c2 := HR.out.c2
    by_cases hlt : i < fs.length
    · have hlt2 : (i : Int) < (fs.length : Int) := by omega
      have hi0 : (0 : Int) ≤ (i : Int) := by omega
      have q := HR.out.at (List.getElem?_eq_getElem hlt)
      have HGD := Lib.hid (show fs.getD i false = fs[i] by simp [hlt])
      obtain ⟨f, hf⟩ : ∃ f, fs[i] = f := ⟨_, rfl⟩
      rw [hf] at q HGD
      clear hf
      have HT0 := Lib.hid (show twos 0 = 1 from rfl)
      go_wp2
      go_loopw [5, 6] (fun x t wq => ∃ k : Nat, k ≤ i % 8 ∧ t = .int .i64 k ∧ x = .int .u8 (twos k) ∧ wr = wq) (fun _ t _ => i % 8 - (intOf t).toNat)
      case atStart => exact ⟨0, Nat.zero_le _, rfl, by rw [HT0.out], rfl⟩
      case round =>
        obtain ⟨k, hk, rfl, rfl, rfl⟩ := hrel
        by_cases hkt : k < i % 8
        · have hkt2 : (k : Int) < (i : Int) % 8 := by omega
          have HS := Lib.hid (twos_succ k)
          obtain ⟨b1, b2⟩ := twos_bd6 (show k < 7 by omega)
          go_wp2
          go_roundw
          case rel => exact ⟨k + 1, by omega, by go_num, by rw [HS.out], by trivial⟩
          case measure => simp [intOf]; omega
        · have hkt2 : ¬ (k : Int) < (i : Int) % 8 := by omega
          have HKE := Lib.hid (show k = i % 8 by omega)
          cases f
          · have HN := Lib.hid (show bsTo fs (i + 1) = bsTo fs i by show (if _ then _ else _) = _; rw [if_neg (by rw [HGD.out]; simp)])
            go_wp2
            go_roundw
            case rel => exact ⟨i + 1, by omega, by go_num, by rw [HN.out]; exact HBL.out, HB.out⟩
            case measure => simp [intOf]; omega
          · have hi8 : i / 8 < (bsTo fs i).length := by rw [HL.out]; omega
            obtain ⟨v, hv⟩ : ∃ v, (bsTo fs i)[i / 8]? = some v := ⟨_, List.getElem?_eq_getElem hi8⟩
            have hvb : v < 256 := bsTo_bytes fs i v (List.mem_of_getElem? hv)
            have hvd : (bsTo fs i).getD (i / 8) 0 = v := by rw [List.getD_eq_getElem?_getD, hv]; rfl
            have hbit : v.testBit (i % 8) = false := by
              have h1 := bsTo_bit fs i hi i
              unfold bitAt at h1
              rw [hvd] at h1
              rw [h1]; simp
            have hor := or_add hvb (show i % 8 < 8 by omega) hbit
            have HN := Lib.hid (show bsTo fs (i + 1) = (bsTo fs i).set (i / 8) (v + 2 ^ (i % 8)) by
              show (if _ then _ else _) = _
              rw [if_pos HGD.out]
              unfold setB
              rw [hvd, if_pos rfl, hor])
            have hlt256 : v + 2 ^ (i % 8) < 256 := by rw [← hor]; exact Nat.or_lt_two_pow (n := 8) hvb (by have := pow8 i; exact this)
            have HU := Lib.hid (show (v : Int) + twos k = ((v + 2 ^ (i % 8) : Nat) : Int) by rw [HKE.out]; unfold twos; omega)
            have bu : (v : Int) + twos k ≤ 255 := by rw [HU.out]; omega
            have bt := (twos_bd (show k ≤ 7 by omega)).1
            have bv : (0 : Int) ≤ (v : Int) := by omega
            have q8 := HBL.out.at hv
            have fz := HBL.out.fz (k := i / 8)
            have hk82 : (i : Int) / 8 < (n : Int) := by have := HL.out i; omega
            have hk80 : 0 ≤ (i : Int) / 8 := by omega
            have HST := Lib.hid (HBL.out.set (k := i / 8) HU.out)
            rw [← HN.out] at HST
            clear hv hvd hbit hor hlt256 hi8
            go_wp2
            go_roundw
            case rel => exact ⟨i + 1, by omega, by go_num, HST.out, HB.out.setCell (p := ⟨g, i / 8, none⟩) (Nat.le_refl _) _⟩
            case measure => simp [intOf]; omega
    · obtain rfl : i = fs.length := by omega
      have hge : (fs.length : Int) ≤ (fs.length : Int) := by omega
      go_wp2
      go_ret
      rw [HG.out]
      exact ⟨rfl, HBL.out.bytes, HB.out⟩
end Go.Proofs.Ytgkeifjnnpcleaa
