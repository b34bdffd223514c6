/- The document's answer for texts: Value. -/
import Derived.Test.YthnpoeobieninaaDoorYh
namespace Go.Proofs.YthnpoeobieninaaDoor
open Go.RowKit

theorem decFrom_app : ∀ (a b : List UInt8) (acc : Nat), Lib.decFrom acc (a ++ b) = (Lib.decFrom acc a).bind fun m => Lib.decFrom m b
  | [], b, acc => rfl
  | c :: r, b, acc => by
    simp only [List.cons_append, Lib.decFrom]
    cases Lib.digitVal c with
    | none => rfl
    | some d => exact decFrom_app r b _
theorem decFrom_lt : ∀ (l : List UInt8) (acc n k : Nat), Lib.decFrom acc l = some n → acc < 10 ^ k → n < 10 ^ (k + l.length)
  | [], acc, n, k, h, ha => by simp [Lib.decFrom] at h; subst h; simpa using ha
  | c :: r, acc, n, k, h, ha => by
    simp only [Lib.decFrom] at h
    split at h
    · rename_i d hd
      have h1 := (digitVal_some hd).1
      have := decFrom_lt r _ n (k + 1) h (by rw [Nat.pow_succ]; omega)
      rw [List.length_cons, show k + (r.length + 1) = k + 1 + r.length by omega]
      exact this
    · cases h
theorem decFrom_take {l : List UInt8} {k m : Nat} (hk : k < l.length) (h : Lib.decFrom 0 (l.take k) = some m) :
    Lib.decFrom 0 (l.take (k + 1)) = (Lib.digitVal l[k]).map fun d => m * 10 + d := by
  rw [List.take_succ_eq_append_getElem hk, decFrom_snoc, h]
  rfl
theorem decFrom_none {l : List UInt8} {k m : Nat} (hk : k < l.length) (h : Lib.decFrom 0 (l.take k) = some m) (hn : Lib.digitVal l[k] = none) : Lib.decFrom 0 l = none := by
  have e : l = l.take (k + 1) ++ l.drop (k + 1) := (List.take_append_drop _ _).symm
  rw [e, decFrom_app, decFrom_take hk h, hn]
  rfl
theorem dec_small {l : List UInt8} {k m : Nat} (hk : k ≤ 5) (h : Lib.decFrom 0 (l.take k) = some m) : m < 100000 := by
  have h1 := decFrom_lt _ 0 m 0 h (by omega)
  have h2 : (l.take k).length ≤ 5 := by rw [List.length_take]; omega
  have h3 : 10 ^ (0 + (l.take k).length) ≤ 10 ^ 5 := Nat.pow_le_pow_right (by omega) (by omega)
  omega
/-- The answer. -/
def valR (l : List UInt8) : Value := .tuple #[.int .i64 (((valF l).getD 0 : Nat) : Int), .bool (valF l).isSome]
theorem valR_none {l : List UInt8} (h : valF l = none) : valR l = .tuple #[.int .i64 0, .bool false] := by rw [valR, h]; rfl
theorem valR_some {l : List UInt8} {n : Nat} (h : valF l = some n) : valR l = .tuple #[.int .i64 (n : Int), .bool true] := by rw [valR, h]; rfl

set_option maxRecDepth 100000 in
set_option maxHeartbeats 4000000 in
theorem rvalue_any (l : List UInt8) (w : World) (hl : l.length ≤ 140000) :
    Calls Tryd.prog 40 #[.string ⟨l.toArray⟩, .int .i64 5] w fun e w' => e = .returned (valR l) ∧ Below w.heap.size w w' := by
  have hA := bl0 w
  have hl2 : (l.length : Int) ≤ 140000 := by omega
  by_cases h0 : l.length = 0
  · rw [valR_none (by unfold valF; rw [if_pos (.inl (by omega))])]
    have hl3 : (l.length : Int) = 0 := by omega
    go_enter Tryd.func40, Tryd.ntmps40
    go_wp2
    refine bodyPost_ret (v := .tuple #[.int .i64 0, .bool false]) (by simp [results, Tryd.results40, go_sem]) rfl ⟨rfl, hA⟩
  have h1 : ¬ ((l.length : Int) < 1) := by omega
  by_cases h5 : 5 < l.length
  · rw [valR_none (by unfold valF; rw [if_pos (.inr (.inl h5))])]
    have hl3 : (5 : Int) < (l.length : Int) := by omega
    go_enter Tryd.func40, Tryd.ntmps40
    go_wp2
    refine bodyPost_ret (v := .tuple #[.int .i64 0, .bool false]) (by simp [results, Tryd.results40, go_sem]) rfl ⟨rfl, hA⟩
  have h5' : ¬ ((5 : Int) < (l.length : Int)) := by omega
  obtain ⟨b0, hb0⟩ : ∃ b, l[0]'(by omega) = b := ⟨_, rfl⟩
  have hget0 : ∀ h, ((⟨l.toArray⟩ : ByteArray)[0]'h) = b0 := fun h => by rw [← hb0]; rfl
  have hpos : (0 : Int) < (l.length : Int) := by omega
  have hhead : l.head? = some b0 := by rw [← hb0, List.head?_eq_getElem?, List.getElem?_eq_getElem (by omega)]
  by_cases hz : b0 = 48 ∧ 1 < l.length
  · obtain ⟨rfl, hz2⟩ := hz
    rw [valR_none (by unfold valF; rw [if_pos (.inr (.inr ⟨hhead, hz2⟩))])]
    have hl3 : (1 : Int) < (l.length : Int) := by omega
    go_enter Tryd.func40, Tryd.ntmps40
    go_wp2
    refine bodyPost_ret (v := .tuple #[.int .i64 0, .bool false]) (by simp [results, Tryd.results40, go_sem]) rfl ⟨rfl, hA⟩
  have hv : valF l = Lib.decFrom 0 l := by
    unfold valF
    rw [if_neg]
    rintro (h | h | ⟨h, h'⟩)
    · omega
    · omega
    · rw [hhead, Option.some.injEq] at h
      exact hz ⟨h, h'⟩
  have key : (b0 = 48 ∧ ¬ ((1 : Int) < (l.length : Int))) ∨ ((b0.toNat : Int) == 48) = false := by
    by_cases h : b0 = 48
    · exact .inl ⟨h, fun h' => hz ⟨h, by omega⟩⟩
    · right
      simp only [beq_eq_false_iff_ne, ne_eq]
      intro e
      exact h (UInt8.toNat_inj.1 (by simp; omega))
  clear hz hhead hb0
  rcases key with ⟨rfl, hs1⟩ | hs1 <;> go_enter Tryd.func40, Tryd.ntmps40 <;> go_wp2 <;> clear hs1 hget0
  all_goals
    go_loopw [6, 7] (fun n i wr => ∃ (k m : Nat), k ≤ l.length ∧ i = .int .i64 k ∧ n = .int .i64 m ∧ Lib.decFrom 0 (l.take k) = some m ∧ Below w.heap.size w wr) (fun _ i _ => l.length - (intOf i).toNat)
    case atStart => exact ⟨0, 0, Nat.zero_le _, rfl, rfl, rfl, hA⟩
    case round =>
      obtain ⟨k, m, hk, rfl, rfl, hd, hB⟩ := hrel
      clear hA
      have hm : (m : Int) < 100000 := by have := dec_small (by omega) hd; omega
      have hm0 : (0 : Int) ≤ (m : Int) := by omega
      have HD := Lib.hid hd
      clear hd
      by_cases hlt : k < l.length
      · have hlt2 : (k : Int) < (l.length : Int) := by omega
        have hk0 : (0 : Int) ≤ (k : Int) := by omega
        obtain ⟨b, hb⟩ : ∃ b, l[k] = b := ⟨_, rfl⟩
        have hget : ∀ h, ((⟨l.toArray⟩ : ByteArray)[k]'h) = b := fun h => by rw [← hb]; rfl
        have hb256 : b.toNat < 256 := b.toNat_lt
        have hbn : (0 : Int) ≤ (b.toNat : Int) := by omega
        by_cases hd : 48 ≤ b.toNat ∧ b.toNat ≤ 57
        · have hd1 : ¬ ((b.toNat : Int) < 48) := by omega
          have hd2 : ¬ ((57 : Int) < (b.toNat : Int)) := by omega
          go_wp2
          refine ⟨⟨k + 1, 10 * m + (b.toNat - 48), hlt, rfl, by congr 1; omega, ?_, hB⟩, by simp [intOf]; omega⟩
          rw [decFrom_take hlt HD.out, hb]
          unfold Lib.digitVal
          rw [if_pos hd, Option.map_some]
          congr 1
          omega
        · have hnone : Lib.digitVal l[k] = none := by rw [hb]; unfold Lib.digitVal; rw [if_neg (by omega)]
          have hvn : valF l = none := by rw [hv]; exact decFrom_none hlt HD.out hnone
          have HV := Lib.hid hvn
          clear hvn hnone hv
          by_cases hd1 : (b.toNat : Int) < 48
          · go_wp2
            refine bodyPost_ret (v := .tuple #[.int .i64 0, .bool false]) (by simp [results, Tryd.results40, go_sem]) rfl ⟨by rw [valR_none HV.out], hB⟩
          · have hd2 : (57 : Int) < (b.toNat : Int) := by omega
            go_wp2
            refine bodyPost_ret (v := .tuple #[.int .i64 0, .bool false]) (by simp [results, Tryd.results40, go_sem]) rfl ⟨by rw [valR_none HV.out], hB⟩
      · obtain rfl : k = l.length := by omega
        have hlt2 : ¬ ((l.length : Int) < (l.length : Int)) := by omega
        have hvs : valF l = some m := by have := HD.out; rw [List.take_length] at this; rw [hv, this]
        have HV := Lib.hid hvs
        clear hvs hv
        go_wp2
        refine bodyPost_ret (v := .tuple #[.int .i64 m, .bool true]) (by simp [results, Tryd.results40, go_sem]) rfl ⟨by rw [valR_some HV.out], hB⟩
end Go.Proofs.YthnpoeobieninaaDoor
