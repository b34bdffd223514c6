/- What is seen along a line: the mathematics. -/
import Derived.Test.YtchlbdikpclmlaaWe
import Derived.Test.YtchlbdikpclmlaaVg
namespace Go.Proofs.Ytchlbdikpclmlaa
open Go.RowKit

/-- Up to the first wall, that is among them. -/
def takeTo (wl : Int × Int → Bool) : List (Int × Int) → List (Int × Int)
  | [] => []
  | c :: r => if wl c then [c] else c :: takeTo wl r
/-- From the first one on, up to the first wall behind it. -/
def walkL (wl : Int × Int → Bool) : List (Int × Int) → List (Int × Int)
  | [] => []
  | c :: r => c :: takeTo wl r
theorem takeTo_free (wl : Int × Int → Bool) : ∀ l : List (Int × Int), (∀ c ∈ l, wl c = false) → takeTo wl l = l
  | [], _ => rfl
  | c :: r, h => by
    rw [takeTo, if_neg (by rw [h c (by simp)]; decide), takeTo_free wl r (fun d hd => h d (by simp [hd]))]
theorem takeTo_stop (wl : Int × Int → Bool) (x : Int × Int) (t : List (Int × Int)) (hx : wl x = true) : ∀ l : List (Int × Int), (∀ c ∈ l, wl c = false) → takeTo wl (l ++ x :: t) = l ++ [x]
  | [], _ => by simp [takeTo, hx]
  | c :: r, h => by
    rw [List.cons_append, takeTo, if_neg (by rw [h c (by simp)]; decide), takeTo_stop wl x t hx r (fun d hd => h d (by simp [hd]))]
    rfl
theorem walk_free {wl : Int × Int → Bool} {l : List (Int × Int)} (h : ∀ c ∈ l.tail, wl c = false) : walkL wl l = l := by
  cases l with
  | nil => rfl
  | cons c r => rw [walkL, takeTo_free wl r h]
theorem walk_stop {wl : Int × Int → Bool} {l pre : List (Int × Int)} {x : Int × Int} (hp : pre ++ [x] <+: l) (h0 : pre ≠ []) (h : ∀ c ∈ pre.tail, wl c = false) (hx : wl x = true) : walkL wl l = pre ++ [x] := by
  obtain ⟨t, rfl⟩ := hp
  cases pre with
  | nil => exact absurd rfl h0
  | cons c r =>
    have e : (c :: r) ++ [x] ++ t = c :: (r ++ x :: t) := by simp
    rw [e, walkL, takeTo_stop wl x t hx r h]
    rfl
theorem walkL_len (wl : Int × Int → Bool) (l : List (Int × Int)) : (walkL wl l).length ≤ l.length := by
  have h : ∀ l : List (Int × Int), (takeTo wl l).length ≤ l.length := by
    intro l
    induction l with
    | nil => simp [takeTo]
    | cons c r ih =>
      rw [takeTo]
      split
      · simp
      · simp; omega
  cases l with
  | nil => simp [walkL]
  | cons c r => simp only [walkL, List.length_cons]; have := h r; omega

/-- All of n steps of n is n, and of none none. -/
theorem pF_all (n : Nat) (k : Int) : pF (k * n) n = if n = 0 then 0 else k := by
  unfold pF
  by_cases h : n = 0
  · simp [h]
  · rw [if_neg (by omega), if_neg h]
    refine (Int.ediv_emod_unique (r := (n : Int)) (by omega)).2 ⟨?_, by omega, by omega⟩ |>.1
    rw [Int.mul_assoc, Int.mul_comm (n : Int) k]
    omega
theorem pF_btw {k n : Nat} {d : Int} (hk : k ≤ n) (hd : -(n : Int) ≤ d ∧ d ≤ n) : (0 ≤ d → 0 ≤ pF (k * d) n ∧ pF (k * d) n ≤ d) ∧ (d ≤ 0 → d ≤ pF (k * d) n ∧ pF (k * d) n ≤ 0) := by
  by_cases h : n = 0
  · have : d = 0 := by omega
    subst this
    simp [pF, h]
  · have h2 : pF (k * d) n = (2 * ((k : Int) * d) + n) / (2 * n) := by unfold pF; rw [if_neg (by omega)]
    rw [h2]
    have hn : (0 : Int) < 2 * n := by omega
    constructor
    · intro h0
      have h3 : 0 ≤ (k : Int) * d := Int.mul_nonneg (by omega) h0
      have h4 : (k : Int) * d ≤ n * d := Int.mul_le_mul_of_nonneg_right (by omega) h0
      refine ⟨Int.ediv_nonneg (by omega) (by omega), ?_⟩
      have h5 : (2 * ((k : Int) * d) + n) / (2 * n) < d + 1 := by
        rw [Int.ediv_lt_iff_lt_mul hn, Int.add_mul]
        have e : d * (2 * (n : Int)) = 2 * (n * d) := by rw [← Int.mul_assoc, Int.mul_comm d 2, Int.mul_assoc, Int.mul_comm d n]
        rw [e]
        omega
      omega
    · intro h0
      have h3 : (k : Int) * d ≤ 0 := Int.mul_nonpos_of_nonneg_of_nonpos (by omega) h0
      have h4 : (n : Int) * d ≤ k * d := Int.mul_le_mul_of_nonpos_right (by omega) h0
      constructor
      · rw [Int.le_ediv_iff_mul_le hn]
        have e : d * (2 * (n : Int)) = 2 * (n * d) := by rw [← Int.mul_assoc, Int.mul_comm d 2, Int.mul_assoc, Int.mul_comm d n]
        rw [e]
        omega
      · have h5 : (2 * ((k : Int) * d) + n) / (2 * n) < 1 := by
          rw [Int.ediv_lt_iff_lt_mul hn]
          omega
        omega

/-- A line between two cells on a map lies on it. -/
theorem line_in {A B X Y Z V : Int} {n : Nat} (h1 : inB A B X Y = true) (h2 : inB A B Z V = true) (hdx : -(n : Int) ≤ Z - X ∧ Z - X ≤ n) (hdy : -(n : Int) ≤ V - Y ∧ V - Y ≤ n) {k : Nat} (hk : k ≤ n) : inB A B (lineK X Y Z V n k).1 (lineK X Y Z V n k).2 = true := by
  obtain ⟨a1, a2, a3, a4, a5, a6, a7, a8⟩ := inB_iff.1 h1
  obtain ⟨b1, b2, b3, b4, b5, b6, b7, b8⟩ := inB_iff.1 h2
  have p := pF_btw hk hdx
  have q := pF_btw hk hdy
  refine inB_iff.2 ⟨a1, a2, a3, a4, ?_, ?_, ?_, ?_⟩
  · show 0 ≤ X + _
    rcases Int.le_total 0 (Z - X) with h | h
    · have := p.1 h; omega
    · have := p.2 h; omega
  · show X + _ < A
    rcases Int.le_total 0 (Z - X) with h | h
    · have := p.1 h; omega
    · have := p.2 h; omega
  · show 0 ≤ Y + _
    rcases Int.le_total 0 (V - Y) with h | h
    · have := q.1 h; omega
    · have := q.2 h; omega
  · show Y + _ < B
    rcases Int.le_total 0 (V - Y) with h | h
    · have := q.1 h; omega
    · have := q.2 h; omega
theorem line_fst (X Y Z V : Int) (n : Nat) : lineK X Y Z V n 0 = (X, Y) := by
  have h : pF 0 (n : Int) = 0 := by
    have := pF_all n 0
    simp at this
    exact this
  simp [lineK, h]
/-- Behind its first cell a line doesn't come back to it. -/
theorem line_away {X Y Z V : Int} {n : Nat} (hf : max (apartI X Z) (apartI Y V) = n) {k : Nat} (h1 : 1 ≤ k) (h2 : k ≤ n) : lineK X Y Z V n k ≠ (X, Y) := by
  intro e
  have e1 : pF (k * (Z - X)) n = 0 := by have := congrArg Prod.fst e; simp only [lineK] at this; omega
  have e2 : pF (k * (V - Y)) n = 0 := by have := congrArg Prod.snd e; simp only [lineK] at this; omega
  have hn : n ≠ 0 := by omega
  have key : ∀ d : Int, d = n ∨ d = -(n : Int) → pF (k * d) n ≠ 0 := by
    rintro d (rfl | rfl)
    · have := pF_all n k
      rw [if_neg hn] at this
      omega
    · have := pF_all n (-(k : Int))
      rw [if_neg hn] at this
      rw [Int.mul_neg, ← Int.neg_mul]
      omega
  unfold apartI at hf
  by_cases h : Z - X = n ∨ Z - X = -(n : Int)
  · exact key _ h e1
  · exact key (V - Y) (by omega) e2
end Go.Proofs.Ytchlbdikpclmlaa
