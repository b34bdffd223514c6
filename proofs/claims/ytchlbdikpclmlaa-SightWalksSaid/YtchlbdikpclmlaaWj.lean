/- What is seen along a line: Sees; the document's answer. -/
import Derived.Test.YtchlbdikpclmlaaWi
import Derived.Deep.RegionHeld3
namespace Go.Proofs.Ytchlbdikpclmlaa
open Go.RowKit

theorem take_prefix_walk (wl : Int × Int → Bool) (l : List (Int × Int)) : walkL wl l <+: l := by
  have h : ∀ l : List (Int × Int), takeTo wl l <+: l := by
    intro l
    induction l with
    | nil => exact List.prefix_rfl
    | cons c r ih =>
      rw [takeTo]
      split
      · exact ⟨r, rfl⟩
      · exact (List.prefix_cons_inj c).2 ih
  cases l with
  | nil => exact List.prefix_rfl
  | cons c r => exact (List.prefix_cons_inj c).2 (h r)
theorem walkL_pos (wl : Int × Int → Bool) {l : List (Int × Int)} (h : l ≠ []) : walkL wl l ≠ [] := by
  cases l with
  | nil => exact absurd rfl h
  | cons c r => simp [walkL]
theorem line_inj {X Y Z V : Int} {n : Nat} (hf : max (apartI X Z) (apartI Y V) = n) {i j : Nat} (h : lineK X Y Z V n i = lineK X Y Z V n j) (hi : i ≤ n) (hj : j ≤ n) : i = j := by
  have e1 : pF (i * (Z - X)) n = pF (j * (Z - X)) n := by have := congrArg Prod.fst h; simp only [lineK] at this; omega
  have e2 : pF (i * (V - Y)) n = pF (j * (V - Y)) n := by have := congrArg Prod.snd h; simp only [lineK] at this; omega
  by_cases hn : n = 0
  · omega
  have key : ∀ d : Int, d = n ∨ d = -(n : Int) → pF (i * d) n = pF (j * d) n → i = j := by
    rintro d (rfl | rfl) e
    · have p := pF_all n i
      have q := pF_all n j
      rw [if_neg hn] at p q
      omega
    · have p := pF_all n (-(i : Int))
      have q := pF_all n (-(j : Int))
      rw [if_neg hn] at p q
      rw [Int.mul_neg, Int.mul_neg, ← Int.neg_mul, ← Int.neg_mul] at e
      omega
  unfold apartI at hf
  by_cases h : Z - X = n ∨ Z - X = -(n : Int)
  · exact key _ h e1
  · exact key (V - Y) (by omega) e2
theorem line_end {X Y Z V : Int} {n : Nat} (hf : max (apartI X Z) (apartI Y V) = n) : lineK X Y Z V n n = (Z, V) := by
  have key : ∀ d : Int, -(n : Int) ≤ d → d ≤ n → pF (n * d) n = d := by
    intro d h1 h2
    have := pF_all n d
    rw [Int.mul_comm] at this
    rw [this]
    split
    · omega
    · rfl
  unfold apartI at hf
  unfold lineK
  rw [key _ (by omega) (by omega), key _ (by omega) (by omega)]
  exact Prod.ext (by show X + (Z - X) = Z; omega) (by show Y + (V - Y) = V; omega)
/-- One sees the end just if it is the last that one sees. -/
theorem seen_end {A : Int} {zs : List Int} {X Y Z V : Int} {n : Nat} (hf : max (apartI X Z) (apartI Y V) = n) {m : Nat} (hm : (seenF A zs X Y Z V n).length = m + 1) :
    ∃ x y, (seenF A zs X Y Z V n)[m]? = some (x, y) ∧ (decide ((Z, V) ∈ seenF A zs X Y Z V n) = decide ((x, y) = (Z, V))) := by
  have hp := take_prefix_walk (wallB A zs) (lineF X Y Z V n)
  have hml : m < n + 1 := by
    have h := hp.length_le
    rw [lineF_len] at h
    have h2 : (walkL (wallB A zs) (lineF X Y Z V n)).length = m + 1 := hm
    omega
  have ht : seenF A zs X Y Z V n = (lineF X Y Z V n).take (m + 1) := by
    have h := List.prefix_iff_eq_take.1 hp
    have h2 : (walkL (wallB A zs) (lineF X Y Z V n)).length = m + 1 := hm
    rw [h2] at h
    exact h
  refine ⟨(lineK X Y Z V n m).1, (lineK X Y Z V n m).2, ?_, ?_⟩
  · rw [ht, List.getElem?_take, if_pos (by omega), lineF_at hml]
  · rw [decide_eq_decide]
    rw [show ((lineK X Y Z V n m).1, (lineK X Y Z V n m).2) = lineK X Y Z V n m from rfl]
    constructor
    · intro h
      rw [ht] at h
      obtain ⟨i, hi, e⟩ := List.getElem_of_mem h
      rw [List.length_take, lineF_len] at hi
      have e2 := List.getElem?_eq_getElem (l := (lineF X Y Z V n).take (m + 1)) (i := i) (by rw [List.length_take, lineF_len]; exact hi)
      rw [List.getElem?_take, if_pos (by omega), lineF_at (by omega), e] at e2
      have e3 : lineK X Y Z V n i = lineK X Y Z V n n := (Option.some.inj e2).trans (line_end hf).symm
      have := line_inj hf e3 (by omega) (Nat.le_refl _)
      have hmn : m = n := by omega
      rw [hmn]
      exact line_end hf
    · intro h
      have e3 : lineK X Y Z V n m = lineK X Y Z V n n := h.trans (line_end hf).symm
      have := line_inj hf e3 (by omega) (Nat.le_refl _)
      subst this
      rw [ht, ← h]
      refine List.mem_of_getElem? (i := m) ?_
      rw [List.getElem?_take, if_pos (by omega), lineF_at hml]

theorem not_mem_at {xs : List (Int × Int)} {v : Int × Int} (h : ∀ j, j < xs.length → xs[j]? ≠ some v) : v ∉ xs := by
  intro hm
  obtain ⟨i, hi, e⟩ := List.getElem_of_mem hm
  exact h i hi (by rw [List.getElem?_eq_getElem hi, e])

set_option maxHeartbeats 2000000 in
theorem sindex_any (a : Option Addr) (cap : Nat) (xs : List (Int × Int)) (x y : Int) (w : World) (hr : RowC w a xs) (hl : xs.length ≤ 100000) :
    Calls Try.prog 66 #[.slice a xs.length cap, .agg #[.int .i64 x, .int .i64 y]] w fun e w' => ∃ i : Int, e = .returned (.int .i64 i) ∧ (0 ≤ i ↔ (x, y) ∈ xs) ∧ Below w.heap.size w w' := by
  have hl2 : (xs.length : Int) ≤ 100000 := by omega
  obtain ⟨w0, hw0⟩ : ∃ w0, w.alloc (.cells #[.int .i64 x, .int .i64 y] 23) = w0 := ⟨_, rfl⟩
  have hb0 : Below w.heap.size w w0 := by rw [← hw0]; exact bl_al (bl0 _) _
  have c0 : w0.cell? ⟨w.heap.size, 0, none⟩ = some (.int .i64 x) := by rw [← hw0]; simp [go_sem]
  have c1 : w0.cell? ⟨w.heap.size, 1, none⟩ = some (.int .i64 y) := by rw [← hw0]; simp [go_sem]
  have HW := Lib.hid hw0
  clear hw0
  replace hr := hr.below hb0
  go_enter Try.func66, Try.ntmps66
  go_wp2
  rw [HW.out]
  go_loopw [5, 8] (fun _ i wr => ∃ k : Nat, k ≤ xs.length ∧ i = .int .i64 k ∧ (∀ j, j < k → xs[j]? ≠ some (x, y)) ∧ Below w0.heap.size w0 wr) (fun _ i _ => xs.length - (intOf i).toNat)
  case atStart => exact ⟨0, Nat.zero_le _, rfl, (fun j h => by omega), bl0 _⟩
  case round =>
    obtain ⟨k, hk, rfl, ht, hB⟩ := hrel
    have HT := Lib.hid ht
    clear ht
    replace c0 := cell_later hB c0
    replace c1 := cell_later hB c1
    have hBw := hb0.trans (hB.mono hb0.size)
    by_cases hlt : k < xs.length
    · have hlt2 : (k : Int) < (xs.length : Int) := by omega
      have hk0 : (0 : Int) ≤ (k : Int) := by omega
      obtain ⟨gb, go, rfl, q0, q1⟩ := hr.cell hlt
      replace q0 := cell_later hB q0
      replace q1 := cell_later hB q1
      have HN := Lib.hid (show xs[k] ≠ (x, y) → ∀ j, j < k + 1 → xs[j]? ≠ some (x, y) by
        intro hne j hj
        by_cases e : j = k
        · subst e
          rw [List.getElem?_eq_getElem hlt]
          exact fun h => hne (Option.some.inj h)
        · exact HT.out j (by omega))
      have HE := Lib.hid (show xs[k] = (x, y) → (x, y) ∈ xs from fun h => by rw [← h]; exact List.getElem_mem hlt)
      have HQ := Lib.hid (show xs[k] = (xs[k].1, xs[k].2) from rfl)
      clear hr HT
      obtain ⟨z1, hz1⟩ : ∃ z, xs[k].1 = z := ⟨_, rfl⟩
      obtain ⟨z2, hz2⟩ : ∃ z, xs[k].2 = z := ⟨_, rfl⟩
      have HQ2 := Lib.hid (show xs[k] = (z1, z2) by rw [← hz1, ← hz2])
      rw [hz1] at q0
      rw [hz2] at q1
      clear HQ hz1 hz2
      by_cases h1 : x = z1
      · by_cases h2 : y = z2
        · subst h1 h2
          have b1 := beq_self_eq_true x
          have b2 := beq_self_eq_true y
          go_wp2
          go_quiet (fail)
          go_wp2
          go_ret
          exact ⟨k, rfl, ⟨fun _ => HE.out HQ2.out, fun _ => hk0⟩, hBw.trans ((bl_drn _ _).mono hBw.size)⟩
        · have b1 : (x == z1) = true := by rw [beq_iff_eq]; exact h1
          have b2 : (y == z2) = false := by rw [beq_eq_false_iff_ne]; exact h2
          have HS := Lib.hid (HN.out (by rw [HQ2.out]; intro e; exact h2 (congrArg Prod.snd e).symm))
          clear h1 h2 HN HE HQ2
          go_wp2
          go_quiet (fail)
          go_wp2
          go_roundw
          case rel => exact ⟨k + 1, by omega, by go_num, HS.out, bl_tr hB (bl_drn _ _)⟩
          case measure => simp [intOf]; omega
      · have b1 : (x == z1) = false := by rw [beq_eq_false_iff_ne]; exact h1
        have HS := Lib.hid (HN.out (by rw [HQ2.out]; intro e; exact h1 (congrArg Prod.fst e).symm))
        clear h1 HN HE HQ2
        go_wp2
        go_quiet (fail)
        go_wp2
        go_roundw
        case rel => exact ⟨k + 1, by omega, by go_num, HS.out, bl_tr hB (bl_drn _ _)⟩
        case measure => simp [intOf]; omega
    · have hge : (xs.length : Int) ≤ (k : Int) := by omega
      have HS := Lib.hid (not_mem_at (fun j hj => HT.out j (by omega)))
      clear hr
      go_wp2
      go_ret
      exact ⟨-1, rfl, ⟨fun h => by omega, fun h => absurd h HS.out⟩, hBw⟩
set_option maxHeartbeats 2000000 in
theorem scontains_any (a : Option Addr) (cap : Nat) (xs : List (Int × Int)) (x y : Int) (w : World) (hr : RowC w a xs) (hl : xs.length ≤ 100000) :
    Calls Try.prog 42 #[.slice a xs.length cap, .agg #[.int .i64 x, .int .i64 y]] w fun e w' => e = .returned (.bool (decide ((x, y) ∈ xs))) ∧ Below w.heap.size w w' := by
  have hA := bl0 w
  have hb0 := bl_al (bl0 w) (.cells #[.int .i64 x, .int .i64 y] 23)
  have HR := Lib.hid (hr.below hb0)
  go_enter Try.func42, Try.ntmps42
  go_wp2_with fail
  refine (sindex_any a cap xs x y _ HR.out hl).mono ?_
  rintro e w1 ⟨i, rfl, hi, hb⟩
  have hF := bl_tr hb0 hb
  by_cases h0 : 0 ≤ i
  · have HM := Lib.hid (hi.1 h0)
    clear hi
    go_wp2
    go_ret
    exact ⟨ret_bool (by simp [HM.out]), hF⟩
  · have HM := Lib.hid (show (x, y) ∉ xs from fun h => h0 (hi.2 h))
    have h1 : i < 0 := by omega
    clear hi h0
    go_wp2
    go_ret
    exact ⟨ret_bool (by simp [HM.out]; try omega), hF⟩
end Go.Proofs.Ytchlbdikpclmlaa
