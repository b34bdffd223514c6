/- How a cost is read: what of it is a numeral; what the listed variables hold. -/
import Derived.Test.YthnpoeobieninaaDoorShelf
import Derived.Test.YthnpoeobieninaaDoorRa
import Derived.Lib.AtoiTie
import Derived.Lib.AtoiAllCases
import Derived.Lib.SmallJoins
import Derived.Lib.AppendIntMem
namespace Go.Proofs.YthnpoeobieninaaDoor
open Go.RowKit Go.Shelf

theorem digitVal_some {b : UInt8} {d : Nat} (h : Lib.digitVal b = some d) : d < 10 ∧ b = UInt8.ofNat (48 + d) := by
  unfold Lib.digitVal at h
  split at h
  · rename_i hb
    cases h
    refine ⟨by omega, ?_⟩
    apply UInt8.toNat_inj.1
    simp
    omega
  · cases h
theorem digitVal_of {d : Nat} (h : d < 10) : Lib.digitVal (UInt8.ofNat (48 + d)) = some d := by
  have e : (UInt8.ofNat (48 + d)).toNat = 48 + d := by simp; omega
  unfold Lib.digitVal
  rw [if_pos (by omega), e]
  simp
theorem decFrom_snoc : ∀ (r : List UInt8) (acc : Nat) (b : UInt8), Lib.decFrom acc (r ++ [b]) = (Lib.decFrom acc r).bind fun m => (Lib.digitVal b).map fun d => m * 10 + d
  | [], acc, b => by
    simp only [List.nil_append, Lib.decFrom]
    cases Lib.digitVal b <;> rfl
  | a :: r, acc, b => by
    simp only [List.cons_append, Lib.decFrom]
    cases Lib.digitVal a with
    | none => rfl
    | some d => exact decFrom_snoc r _ b

/-- No 0 stands ahead. -/
def plainNum (l : List UInt8) : Prop := l ≠ [] ∧ (l.head? = some 48 → l.length = 1)
theorem plainNum_init {r : List UInt8} {b : UInt8} (h : plainNum (r ++ [b])) (hr : r ≠ []) : plainNum r ∧ r.head? ≠ some 48 := by
  cases r with
  | nil => exact absurd rfl hr
  | cons a t =>
    have h2 : (a :: t).head? ≠ some 48 := by
      intro e
      have := h.2 (by simpa using e)
      simp at this
    exact ⟨⟨hr, fun e => absurd e h2⟩, h2⟩

theorem canon (k : Nat) : ∀ (l : List UInt8) (n : Nat), l.length = k + 1 → plainNum l → Lib.decFrom 0 l = some n → Lib.decDigits n = l := by
  induction k with
  | zero =>
    intro l n hl _ hn
    match l, hl with
    | [b], _ =>
      simp only [Lib.decFrom] at hn
      split at hn
      · rename_i d hd
        obtain ⟨h1, h2⟩ := digitVal_some hd
        cases hn
        rw [Lib.decDigits_one (by omega), h2]
        simp
      · cases hn
  | succ k ih =>
    intro l n hl hp hn
    obtain ⟨r, b, rfl⟩ : ∃ r b, l = r ++ [b] := ⟨l.dropLast, l.getLast hp.1, (List.dropLast_concat_getLast hp.1).symm⟩
    have hr : r ≠ [] := by intro e; subst e; simp at hl
    obtain ⟨hpr, h48⟩ := plainNum_init hp hr
    rw [decFrom_snoc] at hn
    obtain ⟨m, hm, hn⟩ := Option.bind_eq_some_iff.1 hn
    obtain ⟨d, hd, rfl⟩ := Option.map_eq_some_iff.1 hn
    obtain ⟨h1, h2⟩ := digitVal_some hd
    have hi := ih r m (by simpa using hl) hpr hm
    have hm0 : m ≠ 0 := by
      rintro rfl
      rw [Lib.decDigits_one (by omega)] at hi
      rw [← hi] at h48
      exact h48 rfl
    rw [Lib.decDigits, dif_neg (by omega), show (m * 10 + d) / 10 = m by omega, show (m * 10 + d) % 10 = d by omega, hi, h2]
theorem decFrom_digits (n : Nat) : Lib.decFrom 0 (Lib.decDigits n) = some n ∧ plainNum (Lib.decDigits n) ∧ ((Lib.decDigits n).head? = some 48 → n = 0) := by
  induction n using Nat.strongRecOn with
  | ind n ih =>
    by_cases hn : n < 10
    · rw [Lib.decDigits_one hn]
      refine ⟨?_, ⟨by simp, fun _ => rfl⟩, fun h => ?_⟩
      · simp only [Lib.decFrom, digitVal_of hn]; simp
      · simp at h
        have := congrArg UInt8.toNat h
        simp at this
        omega
    · obtain ⟨i1, i2, i3⟩ := ih (n / 10) (by omega)
      rw [Lib.decDigits, dif_neg hn]
      have hh : (Lib.decDigits (n / 10) ++ [UInt8.ofNat (48 + n % 10)]).head? ≠ some 48 := by
        intro h
        have : (Lib.decDigits (n / 10)).head? = some 48 := by
          cases hd : Lib.decDigits (n / 10) with
          | nil => exact absurd hd i2.1
          | cons a t => rw [hd] at h; simpa using h
        have := i3 this
        omega
      refine ⟨?_, ⟨by simp, fun h => absurd h hh⟩, fun h => absurd h hh⟩
      rw [decFrom_snoc, i1, digitVal_of (by omega)]
      simp
      omega

/-- What a numeral of at most five digits tells. -/
def valF (l : List UInt8) : Option Nat := if l.length < 1 ∨ 5 < l.length ∨ (l.head? = some 48 ∧ 1 < l.length) then none else Lib.decFrom 0 l
theorem valF_some {l : List UInt8} {n : Nat} (h : valF l = some n) : l.length ≤ 5 ∧ plainNum l ∧ Lib.decFrom 0 l = some n ∧ Lib.decDigits n = l := by
  unfold valF at h
  split at h
  · cases h
  · rename_i hc
    simp only [not_or, not_and, Nat.not_lt] at hc
    obtain ⟨h1, h2, h3⟩ := hc
    have hp : plainNum l := ⟨by intro e; subst e; simp at h1, fun e => by have := h3 e; omega⟩
    exact ⟨h2, hp, h, canon (l.length - 1) l n (by omega) hp h⟩
theorem valF_digits {n : Nat} (h : (Lib.decDigits n).length ≤ 5) : valF (Lib.decDigits n) = some n := by
  obtain ⟨h1, h2, _⟩ := decFrom_digits n
  unfold valF
  rw [if_neg, h1]
  have := List.length_pos_iff.2 h2.1
  simp only [not_or, not_and, Nat.not_lt]
  exact ⟨this, h, fun e => by have := h2.2 e; omega⟩
theorem digits_lt : ∀ (k n : Nat), n < 10 ^ (k + 1) → (Lib.decDigits n).length ≤ k + 1 := by
  intro k
  induction k with
  | zero => intro n h; rw [Lib.decDigits_one (by omega)]; simp
  | succ k ih =>
    intro n h
    by_cases hn : n < 10
    · rw [Lib.decDigits_one hn]; simp
    · rw [Lib.decDigits, dif_neg hn]
      have := ih (n / 10) (by rw [Nat.pow_succ] at h; omega)
      simp; omega
theorem lt_digits : ∀ (k n : Nat), (Lib.decDigits n).length ≤ k + 1 → n < 10 ^ (k + 1) := by
  intro k
  induction k with
  | zero =>
    intro n h
    by_cases hn : n < 10
    · omega
    · rw [Lib.decDigits, dif_neg hn] at h
      have := List.length_pos_iff.2 (decFrom_digits (n / 10)).2.1.1
      simp only [List.length_append, List.length_cons, List.length_nil] at h
      omega
  | succ k ih =>
    intro n h
    by_cases hn : n < 10
    · have : 10 ^ 1 ≤ 10 ^ (k + 1 + 1) := Nat.pow_le_pow_right (by omega) (by omega)
      omega
    · rw [Lib.decDigits, dif_neg hn] at h
      have := ih (n / 10) (by simpa using h)
      rw [Nat.pow_succ]; omega
theorem valF_lt {l : List UInt8} {n : Nat} (h : valF l = some n) : n < 100000 := by
  obtain ⟨h1, _, _, h4⟩ := valF_some h
  exact lt_digits 4 n (by rw [h4]; exact h1)

/-- What Atoi tells of it. -/
theorem valF_atoi {l : List UInt8} {n : Nat} (h : valF l = some n) : Lib.atoiAll l = .ok (n : Int) ∧ Lib.itoa n = l := by
  obtain ⟨h1, h2, h3, h4⟩ := valF_some h
  refine ⟨?_, by rw [Lib.itoa_nonneg, h4]⟩
  rw [Lib.atoiAll_short l (by omega)]
  have : Lib.atoi l = some (n : Int) := by
    cases l with
    | nil => exact absurd rfl h2.1
    | cons c r =>
      have hc : ∃ d, Lib.digitVal c = some d := Lib.digit_of_decFrom _ _ _ h3 0 c rfl
      obtain ⟨d, hd⟩ := hc
      obtain ⟨h5, h6⟩ := digitVal_some hd
      have e : c.toNat = 48 + d := by rw [h6]; simp; omega
      have n45 : (c == 45) = false := by simp; rintro rfl; simp at e; omega
      have n43 : (c == 43) = false := by simp; rintro rfl; simp at e; omega
      simp only [Lib.atoi, n45, n43, Lib.decNat, List.isEmpty_cons, h3]
      rfl
  rw [this]; rfl
theorem atoi_valF {l : List UInt8} {v : Int} (h1 : 0 ≤ v) (h2 : l.length ≤ 5) (h3 : Lib.itoa v = l) : valF l = some v.toNat := by
  obtain ⟨n, rfl⟩ : ∃ n : Nat, v = n := ⟨v.toNat, by omega⟩
  rw [Lib.itoa_nonneg] at h3
  subst h3
  exact valF_digits h2

/-- What a cost is read as; how it is wrong. -/
def readF (l : List UInt8) : Int × Int := match valF l with
  | none => (0, 11)
  | some n => if 65535 < n then (0, 10) else (n, 0)

/-- What the listed variables hold, as far as the walks read it. -/
structure Sits (w : World) : Prop where
  tab : Lib.TabIs Tryd.prog w "internal/strconv.uint64pow10" .u64 Lib.pow10Tab
  syn : ∃ tp pv, w.var? Tryd.prog "strconv.ErrSyntax" = some #[.iface tp pv]
  rng : ∃ tp pv, w.var? Tryd.prog "strconv.ErrRange" = some #[.iface tp pv]
theorem var_later {w w' : World} {n : String} {cs : Array Value} (h : w.var? Tryd.prog n = some cs) (hb : Below w.heap.size w w') : w'.var? Tryd.prog n = some cs := by
  unfold World.var? at h ⊢
  cases hg : Tryd.prog.globalNamed n with
  | none => rw [hg] at h; cases h
  | some g =>
    rw [hg] at h
    simp only [Option.bind_some] at h ⊢
    have hlt : g < w.heap.size := by
      cases ho : w.heap[g]? with
      | none => rw [ho] at h; cases h
      | some o => exact (Array.getElem?_eq_some_iff.1 ho).1
    rw [hb.block g hlt]
    exact h
theorem Sits.later {w w' : World} (h : Sits w) (hb : Below w.heap.size w w') : Sits w' :=
  ⟨var_later h.tab hb, by obtain ⟨a, b, c⟩ := h.syn; exact ⟨a, b, var_later c hb⟩, by obtain ⟨a, b, c⟩ := h.rng; exact ⟨a, b, var_later c hb⟩⟩
theorem Sits.later' {w w' : World} (h : Sits w) {n : Nat} (hn : n = w.heap.size) (hb : Below n w w') : Sits w' := by subst hn; exact h.later hb

/-- One contract of Atoi, at every string. -/
theorem atoi_any (s : ByteArray) (w : World) (hlim : s.size ≤ 281474976710656) (hS : Sits w) :
    Calls Tryd.prog 51 #[.string s] w fun e w' => Below w.heap.size w w' ∧
      ((∃ v, Lib.atoiAll s.data.toList = .ok v ∧ e = .returned (.tuple #[.int .i64 v, .nilIface])) ∨
       (∃ v t q, (∀ u, Lib.atoiAll s.data.toList ≠ .ok u) ∧ e = .returned (.tuple #[.int .i64 v, .iface t (.pointer (some q))]))) := by
  rcases h : Lib.atoiAll s.data.toList with v | _ | _
  · refine (Tryd.strconv_Atoi_ok s (by omega) v h w).mono ?_
    rintro e w' ⟨rfl, (rfl | ⟨t, rfl⟩)⟩
    · exact ⟨bl0 _, .inl ⟨v, rfl, rfl⟩⟩
    · exact ⟨Lib.bytesWorld_below _ _ _, .inl ⟨v, rfl, rfl⟩⟩
  · obtain ⟨tp, pv, hv⟩ := hS.syn
    have hc := Any.strconv_Atoi_syntax_var Tryd.laysC172 s hlim h tp pv w hv
    refine Calls.mono (f := 51) hc ?_
    rintro e w' ⟨N, rfl, _, _, hb⟩
    exact ⟨hb, .inr ⟨_, _, _, (fun u hu => by cases hu), rfl⟩⟩
  · obtain ⟨tp, pv, hv⟩ := hS.rng
    refine (Tryd.strconv_Atoi_range_var s hlim h tp pv w hv).mono ?_
    rintro e w' ⟨N, rfl, _, _, hb⟩
    exact ⟨hb, .inr ⟨_, _, _, (fun u hu => by cases hu), rfl⟩⟩
end Go.Proofs.YthnpoeobieninaaDoor
