/- Sets joined and kept: how many bits there are, and the laws of both. -/
import Derived.Test.YtgkeifjnnpcleaaKf
namespace Go.Proofs.Ytgkeifjnnpcleaa
open Go.RowKit

/-! How many bits a byte has, bit by bit -/
def b2n (b : Bool) : Nat := if b then 1 else 0
def bits8 (x : Nat) : Nat := b2n (x.testBit 0) + b2n (x.testBit 1) + b2n (x.testBit 2) + b2n (x.testBit 3) + b2n (x.testBit 4) + b2n (x.testBit 5) + b2n (x.testBit 6) + b2n (x.testBit 7)
theorem ones_bits8 : ∀ n : Fin 256, Lib.onesCount n.val = bits8 n.val := by decide +kernel
theorem ones_b (x : Nat) (h : x < 256) : Lib.onesCount x = bits8 x := ones_bits8 ⟨x, h⟩
theorem b2n_or (a b : Bool) : b2n (a || b) = b2n a + b2n (a ^^ (a || b)) := by cases a <;> cases b <;> rfl
theorem b2n_and (a b : Bool) : b2n (a && b) + b2n (a ^^ (a && b)) = b2n a := by cases a <;> cases b <;> rfl
theorem b2n_sum (a b : Bool) : b2n (a || b) + b2n (a && b) = b2n a + b2n b := by cases a <;> cases b <;> rfl
theorem ones_or (a b : Nat) (ha : a < 256) (hb : b < 256) : Lib.onesCount (a ||| b) = Lib.onesCount a + Lib.onesCount (a ^^^ (a ||| b)) := by
  rw [ones_b _ (or_lt8 a b ha hb), ones_b a ha, ones_b _ (Nat.xor_lt_two_pow (n := 8) ha (or_lt8 a b ha hb))]
  simp only [bits8, Nat.testBit_or, Nat.testBit_xor]
  rw [b2n_or (a.testBit 0), b2n_or (a.testBit 1), b2n_or (a.testBit 2), b2n_or (a.testBit 3), b2n_or (a.testBit 4), b2n_or (a.testBit 5), b2n_or (a.testBit 6), b2n_or (a.testBit 7)]
  omega
theorem ones_and (a b : Nat) (ha : a < 256) (hb : b < 256) : Lib.onesCount (a &&& b) + Lib.onesCount (a ^^^ (a &&& b)) = Lib.onesCount a := by
  rw [ones_b _ (and_lt8 a b ha hb), ones_b a ha, ones_b _ (Nat.xor_lt_two_pow (n := 8) ha (and_lt8 a b ha hb))]
  simp only [bits8, Nat.testBit_and, Nat.testBit_xor]
  rw [← b2n_and (a.testBit 0) (b.testBit 0), ← b2n_and (a.testBit 1) (b.testBit 1), ← b2n_and (a.testBit 2) (b.testBit 2), ← b2n_and (a.testBit 3) (b.testBit 3), ← b2n_and (a.testBit 4) (b.testBit 4), ← b2n_and (a.testBit 5) (b.testBit 5), ← b2n_and (a.testBit 6) (b.testBit 6), ← b2n_and (a.testBit 7) (b.testBit 7)]
  omega
theorem ones_sum (a b : Nat) (ha : a < 256) (hb : b < 256) : Lib.onesCount (a ||| b) + Lib.onesCount (a &&& b) = Lib.onesCount a + Lib.onesCount b := by
  rw [ones_b _ (or_lt8 a b ha hb), ones_b _ (and_lt8 a b ha hb), ones_b a ha, ones_b b hb]
  simp only [bits8, Nat.testBit_and, Nat.testBit_or]
  have e := fun i => b2n_sum (a.testBit i) (b.testBit i)
  have e0 := e 0; have e1 := e 1; have e2 := e 2; have e3 := e 3; have e4 := e 4; have e5 := e 5; have e6 := e 6; have e7 := e 7
  omega

theorem ones_cons (x : Nat) (bs : List Nat) : ones (x :: bs) = Lib.onesCount x + ones bs := by simp [ones]
theorem add3 {a b c d e f : Nat} (h : a = b + c) (k : d = e + f) : a + d = b + e + (c + f) := by omega
theorem join_or : ∀ (cs ds : List Nat), cs.length = ds.length → IsBytes cs → IsBytes ds → ones (joinB (fun a b => a ||| b) cs ds) = ones cs + ones (List.zipWith (fun x y => x ^^^ (x ||| y)) cs ds)
  | [], [], _, _, _ => rfl
  | c :: cs, d :: ds, h, hc, hd => by
    have ih := join_or cs ds (by simpa using h) (fun x hx => hc x (by simp [hx])) (fun x hx => hd x (by simp [hx]))
    have e := ones_or c d (hc c (by simp)) (hd d (by simp))
    unfold joinB at ih ⊢
    rw [List.zipWith_cons_cons, List.zipWith_cons_cons, ones_cons, ones_cons, ones_cons]
    exact add3 e ih
theorem join_and : ∀ (cs ds : List Nat), cs.length = ds.length → IsBytes cs → IsBytes ds → ones cs = ones (joinB (fun a b => a &&& b) cs ds) + ones (List.zipWith (fun x y => x ^^^ (x &&& y)) cs ds)
  | [], [], _, _, _ => rfl
  | c :: cs, d :: ds, h, hc, hd => by
    have ih := join_and cs ds (by simpa using h) (fun x hx => hc x (by simp [hx])) (fun x hx => hd x (by simp [hx]))
    have e := (ones_and c d (hc c (by simp)) (hd d (by simp))).symm
    unfold joinB at ih ⊢
    rw [List.zipWith_cons_cons, List.zipWith_cons_cons, ones_cons, ones_cons, ones_cons]
    exact add3 e ih
theorem add4 {a b c d e f g h : Nat} (p : a + b = c + d) (q : e + f = g + h) : a + e + (b + f) = c + g + (d + h) := by omega
theorem join_sum : ∀ (cs ds : List Nat), cs.length = ds.length → IsBytes cs → IsBytes ds → ones (joinB (fun a b => a ||| b) cs ds) + ones (joinB (fun a b => a &&& b) cs ds) = ones cs + ones ds
  | [], [], _, _, _ => rfl
  | c :: cs, d :: ds, h, hc, hd => by
    have ih := join_sum cs ds (by simpa using h) (fun x hx => hc x (by simp [hx])) (fun x hx => hd x (by simp [hx]))
    have e := ones_sum c d (hc c (by simp)) (hd d (by simp))
    unfold joinB at ih ⊢
    rw [List.zipWith_cons_cons, List.zipWith_cons_cons, ones_cons, ones_cons, ones_cons, ones_cons]
    exact add4 e ih
theorem turnK_full (f : Nat → Nat → Nat) {cs ds : List Nat} (h : cs.length = ds.length) : turnK f cs ds cs.length = ones (List.zipWith (fun x y => x ^^^ f x y) cs ds) := by
  unfold turnK
  rw [List.take_length, h, List.take_length]

/-! The laws -/
theorem jext {cs ds : List Nat} (hl : cs.length = ds.length) (h : ∀ i (h1 : i < cs.length) (h2 : i < ds.length), cs[i] = ds[i]) : cs = ds := List.ext_getElem hl h
theorem or_comm_b {cs ds : List Nat} (h : cs.length = ds.length) : joinB (fun a b => a ||| b) cs ds = joinB (fun a b => a ||| b) ds cs :=
  jext (by simp [joinB, h]) fun i _ _ => by simp only [joinB, List.getElem_zipWith]; exact Nat.or_comm _ _
theorem and_comm_b {cs ds : List Nat} (h : cs.length = ds.length) : joinB (fun a b => a &&& b) cs ds = joinB (fun a b => a &&& b) ds cs :=
  jext (by simp [joinB, h]) fun i _ _ => by simp only [joinB, List.getElem_zipWith]; exact Nat.and_comm _ _
theorem or_assoc_b (cs ds es : List Nat) : joinB (fun a b => a ||| b) (joinB (fun a b => a ||| b) cs ds) es = joinB (fun a b => a ||| b) cs (joinB (fun a b => a ||| b) ds es) :=
  jext (by simp [joinB, Nat.min_assoc]) fun i _ _ => by simp [joinB, Nat.or_assoc]
theorem and_assoc_b (cs ds es : List Nat) : joinB (fun a b => a &&& b) (joinB (fun a b => a &&& b) cs ds) es = joinB (fun a b => a &&& b) cs (joinB (fun a b => a &&& b) ds es) :=
  jext (by simp [joinB, Nat.min_assoc]) fun i _ _ => by simp [joinB, Nat.and_assoc]
theorem and_or_b (cs ds es : List Nat) (_ : cs.length = ds.length) (_ : cs.length = es.length) : joinB (fun a b => a &&& b) cs (joinB (fun a b => a ||| b) ds es) = joinB (fun a b => a ||| b) (joinB (fun a b => a &&& b) cs ds) (joinB (fun a b => a &&& b) cs es) :=
  jext (by simp [joinB]; omega) fun i _ _ => by simp [joinB, Nat.and_or_distrib_left]
theorem absorb_b {cs ds : List Nat} (h : cs.length = ds.length) : joinB (fun a b => a ||| b) cs (joinB (fun a b => a &&& b) cs ds) = cs :=
  jext (by simp [joinB, h]) fun i _ _ => by
    simp only [joinB, List.getElem_zipWith]
    apply Nat.eq_of_testBit_eq
    intro j
    rw [Nat.testBit_or, Nat.testBit_and]
    cases cs[i].testBit j <;> rfl
theorem Good.or {X Y : Int} {cs ds : List Nat} (gc : Good X Y cs) (gd : Good X Y ds) : Good X Y (joinB (fun a b => a ||| b) cs ds) := by
  have hl : cs.length = ds.length := by have := gc.2.1; have := gd.2.1; omega
  exact ⟨gc.1, by rw [joinB_len _ hl]; exact gc.2.1, joinB_bytes or_lt8 gc.2.2.1 gd.2.2.1, fun i hi => by rw [bitAt_or hl, gc.2.2.2 i hi, gd.2.2.2 i hi]; rfl⟩
theorem Good.and {X Y : Int} {cs ds : List Nat} (gc : Good X Y cs) (gd : Good X Y ds) : Good X Y (joinB (fun a b => a &&& b) cs ds) := by
  have hl : cs.length = ds.length := by have := gc.2.1; have := gd.2.1; omega
  exact ⟨gc.1, by rw [joinB_len _ hl]; exact gc.2.1, joinB_bytes and_lt8 gc.2.2.1 gd.2.2.1, fun i hi => by rw [bitAt_and hl, gc.2.2.2 i hi, gd.2.2.2 i hi]; rfl⟩
theorem Good.len {X Y : Int} {cs ds : List Nat} (gc : Good X Y cs) (gd : Good X Y ds) : cs.length = ds.length := by have := gc.2.1; have := gd.2.1; omega
end Go.Proofs.Ytgkeifjnnpcleaa
