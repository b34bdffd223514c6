/- Sets of cells cs bytes: the mathematics. -/
import Derived.Test.YtgkeifjnnpcleaaShelf
import Derived.WalkKit
import Derived.WalkSmall
namespace Go.Proofs.Ytgkeifjnnpcleaa
open Go.RowKit

/-! The bits of a byte cs the program reckons them -/
theorem u8_or (a b : Nat) (ha : a < 256) (hb : b < 256) : bits .or .u8 (a : Int) (b : Int) = ((a ||| b : Nat) : Int) := by
  have h : (a ||| b) < 256 := Nat.or_lt_two_pow (n := 8) ha hb
  have e : (BitVec.ofNat 8 a ||| BitVec.ofNat 8 b).toNat = a ||| b := by rw [BitVec.toNat_or, BitVec.toNat_ofNat, BitVec.toNat_ofNat, Nat.mod_eq_of_lt ha, Nat.mod_eq_of_lt hb]
  have e' : (BitVec.ofInt 8 (a : Int) ||| BitVec.ofInt 8 (b : Int)).toNat = a ||| b := by rw [BitVec.ofInt_natCast, BitVec.ofInt_natCast]; exact e
  show IntKind.u8.wrap (((BitVec.ofInt 8 (a : Int) ||| BitVec.ofInt 8 (b : Int)).toNat : Nat) : Int) = _
  rw [e']
  exact IntWalk.u8_in _ (by omega)
theorem u8_and (a b : Nat) (ha : a < 256) (hb : b < 256) : bits .and .u8 (a : Int) (b : Int) = ((a &&& b : Nat) : Int) := by
  have h : (a &&& b) < 256 := Nat.lt_of_le_of_lt Nat.and_le_left ha
  have e : (BitVec.ofNat 8 a &&& BitVec.ofNat 8 b).toNat = a &&& b := by rw [BitVec.toNat_and, BitVec.toNat_ofNat, BitVec.toNat_ofNat, Nat.mod_eq_of_lt ha, Nat.mod_eq_of_lt hb]
  have e' : (BitVec.ofInt 8 (a : Int) &&& BitVec.ofInt 8 (b : Int)).toNat = a &&& b := by rw [BitVec.ofInt_natCast, BitVec.ofInt_natCast]; exact e
  show IntKind.u8.wrap (((BitVec.ofInt 8 (a : Int) &&& BitVec.ofInt 8 (b : Int)).toNat : Nat) : Int) = _
  rw [e']
  exact IntWalk.u8_in _ (by omega)
theorem u8_xor (a b : Nat) (ha : a < 256) (hb : b < 256) : bits .xor .u8 (a : Int) (b : Int) = ((a ^^^ b : Nat) : Int) := by
  have h : (a ^^^ b) < 256 := Nat.xor_lt_two_pow (n := 8) ha hb
  have e : (BitVec.ofNat 8 a ^^^ BitVec.ofNat 8 b).toNat = a ^^^ b := by rw [BitVec.toNat_xor, BitVec.toNat_ofNat, BitVec.toNat_ofNat, Nat.mod_eq_of_lt ha, Nat.mod_eq_of_lt hb]
  have e' : (BitVec.ofInt 8 (a : Int) ^^^ BitVec.ofInt 8 (b : Int)).toNat = a ^^^ b := by rw [BitVec.ofInt_natCast, BitVec.ofInt_natCast]; exact e
  show IntKind.u8.wrap (((BitVec.ofInt 8 (a : Int) ^^^ BitVec.ofInt 8 (b : Int)).toNat : Nat) : Int) = _
  rw [e']
  exact IntWalk.u8_in _ (by omega)
theorem u8_andNot (a b : Nat) (ha : a < 256) (hb : b < 256) : bits .andNot .u8 (a : Int) (b : Int) = ((a &&& (255 - b) : Nat) : Int) := by
  have h : (a &&& (255 - b)) < 256 := Nat.lt_of_le_of_lt Nat.and_le_left ha
  have e : (BitVec.ofNat 8 a &&& ~~~(BitVec.ofNat 8 b)).toNat = a &&& (255 - b) := by rw [BitVec.toNat_and, BitVec.toNat_not, BitVec.toNat_ofNat, BitVec.toNat_ofNat, Nat.mod_eq_of_lt ha, Nat.mod_eq_of_lt hb]
  have e' : (BitVec.ofInt 8 (a : Int) &&& ~~~(BitVec.ofInt 8 (b : Int))).toNat = a &&& (255 - b) := by rw [BitVec.ofInt_natCast, BitVec.ofInt_natCast]; exact e
  show IntKind.u8.wrap (((BitVec.ofInt 8 (a : Int) &&& ~~~(BitVec.ofInt 8 (b : Int))).toNat : Nat) : Int) = _
  rw [e']
  exact IntWalk.u8_in _ (by omega)

theorem and_pow_bit (o k : Nat) : (o &&& 2 ^ k != 0) = o.testBit k := by
  cases hb : o.testBit k
  · have : o &&& 2 ^ k = 0 := by
      apply Nat.eq_of_testBit_eq
      intro i
      rw [Nat.testBit_and, Nat.testBit_two_pow]
      by_cases hi : k = i
      · subst hi; simp [hb]
      · simp [hi]
    simp [this]
  · have h1 : (o &&& 2 ^ k).testBit k = true := by rw [Nat.testBit_and, hb]; simp
    rw [bne_iff_ne]
    intro h0
    rw [h0] at h1
    simp at h1

/-! A set's bytes -/
def IsBytes (bs : List Nat) : Prop := ∀ x ∈ bs, x < 256
def bitAt (bs : List Nat) (i : Nat) : Bool := (bs.getD (i / 8) 0).testBit (i % 8)
def setB (bs : List Nat) (i : Nat) (v : Bool) : List Nat := bs.set (i / 8) (if v then bs.getD (i / 8) 0 ||| 2 ^ (i % 8) else bs.getD (i / 8) 0 &&& (255 - 2 ^ (i % 8)))
theorem setB_len (bs : List Nat) (i : Nat) (v : Bool) : (setB bs i v).length = bs.length := by simp [setB]
theorem IsBytes.getD {bs : List Nat} (h : IsBytes bs) (k : Nat) : bs.getD k 0 < 256 := by
  rw [List.getD_eq_getElem?_getD]
  cases e : bs[k]? with
  | none => simp
  | some x => simpa using h x (List.mem_of_getElem? e)
theorem pow8 (i : Nat) : 2 ^ (i % 8) < 256 := by
  have : i % 8 < 8 := Nat.mod_lt _ (by omega)
  calc 2 ^ (i % 8) < 2 ^ 8 := Nat.pow_lt_pow_right (by omega) this
    _ = 256 := rfl
theorem setB_bytes {bs : List Nat} (h : IsBytes bs) (i : Nat) (v : Bool) : IsBytes (setB bs i v) := by
  intro x hx
  rcases List.mem_or_eq_of_mem_set hx with hx | rfl
  · exact h x hx
  · have hg := h.getD (i / 8)
    cases v
    · exact Nat.lt_of_le_of_lt Nat.and_le_left hg
    · exact Nat.or_lt_two_pow (n := 8) hg (pow8 i)
theorem bitAt_setB {bs : List Nat} (i j : Nat) (v : Bool) (hi : i / 8 < bs.length) : bitAt (setB bs i v) j = if j = i then v else bitAt bs j := by
  unfold bitAt setB
  by_cases hj : j / 8 = i / 8
  · rw [hj, List.getD_eq_getElem?_getD, List.getElem?_set_self hi, Option.getD_some]
    by_cases hji : j = i
    · subst hji
      cases v
      · rw [if_pos rfl]
        simp only [Bool.false_eq_true, if_false, Nat.testBit_and]
        rw [show 255 - 2 ^ (j % 8) = 2 ^ 8 - (2 ^ (j % 8) + 1) by have := pow8 j; omega, Nat.testBit_two_pow_sub_succ (pow8 j)]
        simp
      · simp
    · have hne : i % 8 ≠ j % 8 := by omega
      have h8 : j % 8 < 8 := Nat.mod_lt _ (by omega)
      rw [if_neg hji]
      cases v
      · simp only [Bool.false_eq_true, if_false, Nat.testBit_and]
        rw [show 255 - 2 ^ (i % 8) = 2 ^ 8 - (2 ^ (i % 8) + 1) by have := pow8 i; omega, Nat.testBit_two_pow_sub_succ (pow8 i)]
        simp [hne, h8]
      · simp [Nat.testBit_or, hne]
  · have hji : j ≠ i := fun e => hj (by rw [e])
    rw [if_neg hji, List.getD_eq_getElem?_getD, List.getElem?_set_ne (Ne.symm hj), ← List.getD_eq_getElem?_getD]
theorem bitAt_out {bs : List Nat} {i : Nat} (h : 8 * bs.length ≤ i) : bitAt bs i = false := by
  unfold bitAt
  rw [List.getD_eq_getElem?_getD, List.getElem?_eq_none (by omega)]
  simp
/-- Bytes with the same bits are the same. -/
theorem ext_bits {cs bs : List Nat} (ha : IsBytes cs) (hb : IsBytes bs) (hl : cs.length = bs.length) (h : ∀ i, i < 8 * cs.length → bitAt cs i = bitAt bs i) : cs = bs := by
  apply List.ext_getElem hl
  intro k h1 h2
  apply Nat.eq_of_testBit_eq
  intro i
  by_cases hi : i < 8
  · have := h (8 * k + i) (by omega)
    unfold bitAt at this
    rw [show (8 * k + i) / 8 = k by omega, show (8 * k + i) % 8 = i by omega] at this
    simpa [List.getD_eq_getElem?_getD, h1, h2] using this
  · have h256 : 256 ≤ 2 ^ i := Nat.le_trans (show 256 ≤ 2 ^ 8 by decide) (Nat.pow_le_pow_right (by decide) (by omega))
    have hx : cs[k] < 2 ^ i := Nat.lt_of_lt_of_le (ha _ (List.getElem_mem h1)) h256
    have hy : bs[k] < 2 ^ i := Nat.lt_of_lt_of_le (hb _ (List.getElem_mem h2)) h256
    rw [Nat.testBit_lt_two_pow hx, Nat.testBit_lt_two_pow hy]

/-! Two sets joined byte by byte -/
def joinB (f : Nat → Nat → Nat) (cs bs : List Nat) : List Nat := List.zipWith f cs bs
theorem joinB_len (f : Nat → Nat → Nat) {cs bs : List Nat} (h : cs.length = bs.length) : (joinB f cs bs).length = cs.length := by simp [joinB, h]
theorem joinB_getD (f : Nat → Nat → Nat) (hf : f 0 0 = 0) {cs bs : List Nat} (h : cs.length = bs.length) (k : Nat) : (joinB f cs bs).getD k 0 = f (cs.getD k 0) (bs.getD k 0) := by
  simp only [joinB, List.getD_eq_getElem?_getD, List.getElem?_zipWith]
  by_cases hk : k < cs.length
  · rw [List.getElem?_eq_getElem hk, List.getElem?_eq_getElem (h ▸ hk)]; rfl
  · rw [List.getElem?_eq_none (by omega), List.getElem?_eq_none (by omega)]; simp [hf]
theorem bitAt_or {cs bs : List Nat} (h : cs.length = bs.length) (i : Nat) : bitAt (joinB (· ||| ·) cs bs) i = (bitAt cs i || bitAt bs i) := by
  unfold bitAt; rw [joinB_getD _ rfl h]; exact Nat.testBit_or _ _ _
theorem bitAt_and {cs bs : List Nat} (h : cs.length = bs.length) (i : Nat) : bitAt (joinB (· &&& ·) cs bs) i = (bitAt cs i && bitAt bs i) := by
  unfold bitAt; rw [joinB_getD _ rfl h]; exact Nat.testBit_and _ _ _
theorem joinB_bytes {f : Nat → Nat → Nat} (hf : ∀ a b, a < 256 → b < 256 → f a b < 256) {cs bs : List Nat} (ha : IsBytes cs) (hb : IsBytes bs) : IsBytes (joinB f cs bs) := by
  intro x hx
  obtain ⟨k, hk⟩ := List.getElem?_of_mem hx
  rw [joinB, List.getElem?_zipWith] at hk
  split at hk
  · rename_i a b h1 h2
    simp at hk; subst hk
    exact hf _ _ (ha _ (List.mem_of_getElem? h1)) (hb _ (List.mem_of_getElem? h2))
  · simp at hk
theorem or_lt8 (a b : Nat) (ha : a < 256) (hb : b < 256) : a ||| b < 256 := Nat.or_lt_two_pow (n := 8) ha hb
theorem and_lt8 (a b : Nat) (ha : a < 256) (_ : b < 256) : a &&& b < 256 := Nat.lt_of_le_of_lt Nat.and_le_left ha
end Go.Proofs.Ytgkeifjnnpcleaa
