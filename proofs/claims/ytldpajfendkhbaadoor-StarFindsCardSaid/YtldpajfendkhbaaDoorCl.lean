/- Least costs: a row of cells of one's own turned round. -/
import Derived.Test.YtldpajfendkhbaaDoorCd
import Derived.Test.YtldpajfendkhbaaDoorOp
namespace Go.Proofs.YtldpajfendkhbaaDoor
open Go.RowKit

theorem flatC_cons (z : IC) (zs : List IC) : flatC (z :: zs) = .int .i64 z.1 :: .int .i64 z.2 :: flatC zs := rfl
theorem flatC_len2 : ∀ zs : List IC, (flatC zs).length = zs.length * 2
  | [] => rfl
  | z :: zs => by
    have := flatC_len2 zs
    rw [flatC_cons]
    simp
    omega
theorem flatC_set : ∀ (zs : List IC) (n : Nat) (z : IC), flatC (zs.set n z) = ((flatC zs).set (n * 2) (.int .i64 z.1)).set (n * 2 + 1) (.int .i64 z.2)
  | [], n, z => by simp [flatC]
  | y :: zs, 0, z => by simp [flatC_cons]
  | y :: zs, n + 1, z => by
    have ih := flatC_set zs n z
    rw [List.set_cons_succ, flatC_cons, flatC_cons, ih, show (n + 1) * 2 = n * 2 + 1 + 1 by omega]
    simp only [List.set_cons_succ]
/-- Turned round in k places from each end. -/
def revK (xs : List IC) (k : Nat) : List IC := (List.range xs.length).map fun j => if j < k ∨ xs.length ≤ j + k then cK xs (xs.length - 1 - j) else cK xs j
theorem revK_len (xs : List IC) (k : Nat) : (revK xs k).length = xs.length := by simp [revK]
theorem revK_at (xs : List IC) (k j : Nat) (h : j < xs.length) : (revK xs k)[j]? = some (if j < k ∨ xs.length ≤ j + k then cK xs (xs.length - 1 - j) else cK xs j) := by
  unfold revK
  rw [List.getElem?_map, List.getElem?_range h]
  rfl
theorem revK_zero (xs : List IC) : revK xs 0 = xs := by
  refine List.ext_getElem? fun j => ?_
  by_cases h : j < xs.length
  · rw [revK_at xs 0 j h, if_neg (by omega), cK_at h]
  · rw [List.getElem?_eq_none (by rw [revK_len]; omega), List.getElem?_eq_none (by omega)]
theorem revK_all (xs : List IC) {k : Nat} (hk : xs.length ≤ 2 * k + 1) : revK xs k = xs.reverse := by
  refine List.ext_getElem? fun j => ?_
  by_cases h : j < xs.length
  · rw [revK_at xs k j h, List.getElem?_reverse h, cK_at (show xs.length - 1 - j < xs.length by omega)]
    split
    · rfl
    · have e : xs.length - 1 - j = j := by omega
      rw [e]
  · rw [List.getElem?_eq_none (by rw [revK_len]; omega), List.getElem?_eq_none (by rw [List.length_reverse]; omega)]
theorem revK_step (xs : List IC) {k : Nat} (hk : 2 * k + 1 < xs.length) : ((revK xs k).set k (cK xs (xs.length - 1 - k))).set (xs.length - 1 - k) (cK xs k) = revK xs (k + 1) := by
  refine List.ext_getElem? fun j => ?_
  by_cases h : j < xs.length
  · rw [revK_at xs (k + 1) j h, List.getElem?_set, List.getElem?_set, revK_at xs k j h, List.length_set, revK_len]
    by_cases e1 : xs.length - 1 - k = j
    · rw [if_pos e1, if_pos (by omega), if_pos (by omega)]
      congr 2
      omega
    · rw [if_neg e1]
      by_cases e2 : k = j
      · rw [if_pos e2, if_pos (by omega), if_pos (by omega), e2]
      · rw [if_neg e2]
        congr 1
        by_cases e3 : j < k ∨ xs.length ≤ j + k
        · rw [if_pos e3, if_pos (by omega)]
        · rw [if_neg e3, if_neg (by omega)]
  · rw [List.getElem?_eq_none (by simp [revK_len]; omega), List.getElem?_eq_none (by rw [revK_len]; omega)]
theorem own_cellC {W : World} {B n cap g : Nat} {xs : List IC} (h : W.ownsRow B 28 2 (.slice (some ⟨g, 0, none⟩) n cap) n (flatC xs)) {j : Nat} {z : IC} (hz : xs[j]? = some z) :
    W.cell? ⟨g, j * 2, none⟩ = some (.int .i64 z.1) ∧ W.cell? ⟨g, j * 2 + 1, none⟩ = some (.int .i64 z.2) := by
  obtain ⟨e0, e1⟩ := flatC_at xs j z hz
  have h0 := h.cells (g := g) rfl _ _ e0
  have h1 := h.cells (g := g) rfl _ _ e1
  rw [hadd] at h0 h1
  exact ⟨h0, h1⟩
theorem own_setC {W : World} {B n cap g : Nat} {xs : List IC} (h : W.ownsRow B 28 2 (.slice (some ⟨g, 0, none⟩) n cap) n (flatC xs)) (j : Nat) (z : IC) :
    ((W.setCell ⟨g, j * 2, none⟩ (.int .i64 z.1)).setCell ⟨g, j * 2 + 1, none⟩ (.int .i64 z.2)).ownsRow B 28 2 (.slice (some ⟨g, 0, none⟩) n cap) n (flatC (xs.set j z)) := by
  rw [flatC_set]
  exact ((h.stored (j * 2) _).1.stored (j * 2 + 1) _).1

set_option maxRecDepth 100000 in
set_option maxHeartbeats 4000000 in
theorem reverse_own (B g cap n : Nat) (xs : List IC) (w : World) (hn : xs.length = n) (hn1 : 1 ≤ n) (hn2 : n ≤ 1048576) (h : w.ownsRow B 28 2 (.slice (some ⟨g, 0, none⟩) n cap) n (flatC xs)) :
    Calls Tryd.prog 57 #[.slice (some ⟨g, 0, none⟩) n cap] w fun e w' => e = .returned (.tuple #[]) ∧ w'.ownsRow B 28 2 (.slice (some ⟨g, 0, none⟩) n cap) n (flatC xs.reverse) ∧ Below B w w' := by
  have HN := Lib.hid hn
  have hgB := (h.lt g rfl).1
  have h0 : w.ownsRow B 28 2 (.slice (some ⟨g, 0, none⟩) n cap) n (flatC (revK xs 0)) := by rw [revK_zero]; exact h
  have hnw : IntKind.i64.wrap ((n : Int) - 1) = (n : Int) - 1 := IntWalk.i64_in _ (by omega)
  clear hn h
  go_enter Tryd.func57, Tryd.ntmps57
  go_wp2
  go_loopw [2, 3] (fun i j wr => ∃ k : Nat, k ≤ n ∧ i = .int .i64 k ∧ j = .int .i64 ((n : Int) - 1 - k) ∧ wr.ownsRow B 28 2 (.slice (some ⟨g, 0, none⟩) n cap) n (flatC (revK xs k)) ∧ Below B w wr) (fun i _ _ => n - (intOf i).toNat)
  case atStart => exact ⟨0, Nat.zero_le _, rfl, by simp, h0, Below.refl _ _⟩
  case round =>
    obtain ⟨k, hk, rfl, rfl, hrow, hB⟩ := hrel
    by_cases hlt : 2 * k + 1 < n
    · have hlt2 : (k : Int) < (n : Int) - 1 - (k : Int) := by omega
      obtain ⟨j, hj⟩ : ∃ j : Nat, j = n - 1 - k := ⟨_, rfl⟩
      have hjj : (n : Int) - 1 - (k : Int) = (j : Int) := by omega
      have hHL := HN.out
      have a1 : (revK xs k)[k]? = some (cK xs k) := by rw [revK_at xs k k (by omega), if_neg (by omega)]
      have a2 : (revK xs k)[j]? = some (cK xs j) := by rw [revK_at xs k j (by omega), if_neg (by omega)]
      obtain ⟨q0, q1⟩ := own_cellC hrow a1
      obtain ⟨p0, p1⟩ := own_cellC hrow a2
      have hst := revK_step xs (k := k) (by omega)
      rw [hHL, ← hj] at hst
      have HST := Lib.hid hst
      have HROW := Lib.hid hrow
      have HB := Lib.hid hB
      have hk0 : (0 : Int) ≤ (k : Int) := by omega
      have hk1 : (k : Int) < (n : Int) := by omega
      have hj0 : (0 : Int) ≤ (j : Int) := by omega
      have hj1 : (j : Int) < (n : Int) := by omega
      have fr : ∀ i, wr.frozen? ⟨g, i, none⟩ = false := hrow.frozenAt
      have f0 := fr (k * 2)
      have f1 := fr (k * 2 + 1)
      have f2 := fr (j * 2)
      have f3 := fr (j * 2 + 1)
      have hkj : k ≠ j := by omega
      rw [hjj] at hlt2 ⊢
      have HJ := Lib.hid (show (n : Int) - 1 - ((k : Int) + 1) = (j : Int) - 1 by omega)
      have HK := Lib.hid (show k < n by omega)
      have HJJ := Lib.hid hj
      have HA2 := Lib.hid a2
      generalize cK xs k = x at *
      generalize cK xs j = y at *
      clear hst hrow hB hHL a1 a2 fr hj hjj h0
      go_wp2
      have hD := bl_dr (bl0 wr)
      refine (wpIn_wide (n := 11)).1 ?_
      refine ordZ_begin (z := 13) (S := (fun w' : World => w'.cell? ⟨g, k * 2, none⟩ = some (.int .i64 x.1) ∧ w'.cell? ⟨g, k * 2 + 1, none⟩ = some (.int .i64 x.2) ∧ w'.cell? ⟨g, j * 2, none⟩ = some (.int .i64 y.1) ∧ w'.cell? ⟨g, j * 2 + 1, none⟩ = some (.int .i64 y.2))) (by kernel_rfl) ⟨q0, q1, p0, p1⟩ (fun hH => ?_)
      first
        | (refine' ordZ_take (i := 0) (oi := { dst := some 14, op := Op.move (Operand.tmp 0), type := 33, pos := _, after := #[], guard := none }) (v := _) rfl (by kernel_rfl) (by kernel_rfl) (by kernel_rfl) (by kernel_rfl) (fun _ _ _ h => h) (by assumption) (by kernel_rfl) (by decide) (by rfl) (Or.inl ⟨by rfl, ?hy65⟩) (fun _ => rfl) ?rest65
           case hy65 => (intro w hSw; (try dsimp only at hSw); go_simp; try with_reducible rfl))
        | (refine ordZ_take (i := 0) (oi := { dst := some 14, op := Op.move (Operand.tmp 0), type := 33, pos := _, after := #[], guard := none }) (v := undef) rfl (by kernel_rfl) (by kernel_rfl) (by kernel_rfl) (by kernel_rfl) (fun _ _ _ h => h) (by assumption) (by kernel_rfl) (by decide) (by rfl) (Or.inr ⟨by rfl, rfl⟩) (fun _ => rfl) ?_)
      try simp only [Act.put, List.setIfInBounds_toArray, List.set_cons_zero, List.set_cons_succ]
      first
        | (refine' ordZ_take (i := 1) (oi := { dst := some 15, op := Op.move (Operand.tmp 2), type := 3, pos := _, after := #[], guard := none }) (v := _) rfl (by kernel_rfl) (by kernel_rfl) (by kernel_rfl) (by kernel_rfl) (fun _ _ _ h => h) (by assumption) (by kernel_rfl) (by decide) (by rfl) (Or.inl ⟨by rfl, ?hy66⟩) (fun _ => rfl) ?rest66
           case hy66 => (intro w hSw; (try dsimp only at hSw); go_simp; try with_reducible rfl))
        | (refine ordZ_take (i := 1) (oi := { dst := some 15, op := Op.move (Operand.tmp 2), type := 3, pos := _, after := #[], guard := none }) (v := undef) rfl (by kernel_rfl) (by kernel_rfl) (by kernel_rfl) (by kernel_rfl) (fun _ _ _ h => h) (by assumption) (by kernel_rfl) (by decide) (by rfl) (Or.inr ⟨by rfl, rfl⟩) (fun _ => rfl) ?_)
      try simp only [Act.put, List.setIfInBounds_toArray, List.set_cons_zero, List.set_cons_succ]
      first
        | (refine' ordZ_take (i := 4) (oi := { dst := some 18, op := Op.move (Operand.tmp 0), type := 33, pos := _, after := #[], guard := none }) (v := _) rfl (by kernel_rfl) (by kernel_rfl) (by kernel_rfl) (by kernel_rfl) (fun _ _ _ h => h) (by assumption) (by kernel_rfl) (by decide) (by rfl) (Or.inl ⟨by rfl, ?hy67⟩) (fun _ => rfl) ?rest67
           case hy67 => (intro w hSw; (try dsimp only at hSw); go_simp; try with_reducible rfl))
        | (refine ordZ_take (i := 4) (oi := { dst := some 18, op := Op.move (Operand.tmp 0), type := 33, pos := _, after := #[], guard := none }) (v := undef) rfl (by kernel_rfl) (by kernel_rfl) (by kernel_rfl) (by kernel_rfl) (fun _ _ _ h => h) (by assumption) (by kernel_rfl) (by decide) (by rfl) (Or.inr ⟨by rfl, rfl⟩) (fun _ => rfl) ?_)
      try simp only [Act.put, List.setIfInBounds_toArray, List.set_cons_zero, List.set_cons_succ]
      first
        | (refine' ordZ_take (i := 5) (oi := { dst := some 19, op := Op.move (Operand.tmp 3), type := 3, pos := _, after := #[], guard := none }) (v := _) rfl (by kernel_rfl) (by kernel_rfl) (by kernel_rfl) (by kernel_rfl) (fun _ _ _ h => h) (by assumption) (by kernel_rfl) (by decide) (by rfl) (Or.inl ⟨by rfl, ?hy68⟩) (fun _ => rfl) ?rest68
           case hy68 => (intro w hSw; (try dsimp only at hSw); go_simp; try with_reducible rfl))
        | (refine ordZ_take (i := 5) (oi := { dst := some 19, op := Op.move (Operand.tmp 3), type := 3, pos := _, after := #[], guard := none }) (v := undef) rfl (by kernel_rfl) (by kernel_rfl) (by kernel_rfl) (by kernel_rfl) (fun _ _ _ h => h) (by assumption) (by kernel_rfl) (by decide) (by rfl) (Or.inr ⟨by rfl, rfl⟩) (fun _ => rfl) ?_)
      try simp only [Act.put, List.setIfInBounds_toArray, List.set_cons_zero, List.set_cons_succ]
      first
        | (refine' ordZ_take (i := 6) (oi := { dst := some 20, op := Op.indexAddr 33 (Operand.tmp 18) (Operand.tmp 19), type := 0, pos := _, after := #[{ on := 4, ground := Ground.data }, { on := 5, ground := Ground.data }], guard := none }) (v := _) rfl (by kernel_rfl) (by kernel_rfl) (by kernel_rfl) (by kernel_rfl) (fun _ _ _ h => h) (by assumption) (by kernel_rfl) (by decide) (by rfl) (Or.inl ⟨by rfl, ?hy69⟩) (fun _ => rfl) ?rest69
           case hy69 => (intro w hSw; (try dsimp only at hSw); go_simp; try with_reducible rfl))
        | (refine ordZ_take (i := 6) (oi := { dst := some 20, op := Op.indexAddr 33 (Operand.tmp 18) (Operand.tmp 19), type := 0, pos := _, after := #[{ on := 4, ground := Ground.data }, { on := 5, ground := Ground.data }], guard := none }) (v := undef) rfl (by kernel_rfl) (by kernel_rfl) (by kernel_rfl) (by kernel_rfl) (fun _ _ _ h => h) (by assumption) (by kernel_rfl) (by decide) (by rfl) (Or.inr ⟨by rfl, rfl⟩) (fun _ => rfl) ?_)
      try simp only [Act.put, List.setIfInBounds_toArray, List.set_cons_zero, List.set_cons_succ]
      first
        | (refine' ordZ_take (i := 7) (oi := { dst := some 21, op := Op.load 28 (Operand.tmp 20), type := 28, pos := _, after := #[{ on := 6, ground := Ground.data }], guard := none }) (v := _) rfl (by kernel_rfl) (by kernel_rfl) (by kernel_rfl) (by kernel_rfl) (fun _ _ _ h => h) (by assumption) (by kernel_rfl) (by decide) (by rfl) (Or.inl ⟨by rfl, ?hy70⟩) (fun _ => rfl) ?rest70
           case hy70 => (intro w hSw; (try dsimp only at hSw); go_simp; try with_reducible rfl))
        | (refine ordZ_take (i := 7) (oi := { dst := some 21, op := Op.load 28 (Operand.tmp 20), type := 28, pos := _, after := #[{ on := 6, ground := Ground.data }], guard := none }) (v := undef) rfl (by kernel_rfl) (by kernel_rfl) (by kernel_rfl) (by kernel_rfl) (fun _ _ _ h => h) (by assumption) (by kernel_rfl) (by decide) (by rfl) (Or.inr ⟨by rfl, rfl⟩) (fun _ => rfl) ?_)
      try simp only [Act.put, List.setIfInBounds_toArray, List.set_cons_zero, List.set_cons_succ]
      first
        | (refine' ordP_take (i := 2) (oi := { dst := some 16, op := Op.move (Operand.tmp 0), type := 33, pos := _, after := #[{ on := 13, ground := Ground.gcOnly Departure.lateStores }], guard := none }) (v := _) rfl (by kernel_rfl) (by kernel_rfl) (by kernel_rfl) (by kernel_rfl) (fun _ _ _ h => h) (fun h => by first | assumption | (exact absurd h (by decide))) (by decide) (Or.inl ⟨by rfl, ?hy71⟩) (fun _ => rfl) ?rest71
           case hy71 => (intro w hSw; (try dsimp only at hSw); go_simp; try with_reducible rfl))
        | (refine ordP_take (i := 2) (oi := { dst := some 16, op := Op.move (Operand.tmp 0), type := 33, pos := _, after := #[{ on := 13, ground := Ground.gcOnly Departure.lateStores }], guard := none }) (v := undef) rfl (by kernel_rfl) (by kernel_rfl) (by kernel_rfl) (by kernel_rfl) (fun _ _ _ h => h) (fun h => by first | assumption | (exact absurd h (by decide))) (by decide) (Or.inr ⟨by rfl, rfl⟩) (fun _ => rfl) ?_)
      try simp only [Act.put, List.setIfInBounds_toArray, List.set_cons_zero, List.set_cons_succ]
      first
        | (refine' ordP_take (i := 3) (oi := { dst := some 17, op := Op.move (Operand.tmp 3), type := 3, pos := _, after := #[{ on := 13, ground := Ground.gcOnly Departure.lateStores }], guard := none }) (v := _) rfl (by kernel_rfl) (by kernel_rfl) (by kernel_rfl) (by kernel_rfl) (fun _ _ _ h => h) (fun h => by first | assumption | (exact absurd h (by decide))) (by decide) (Or.inl ⟨by rfl, ?hy72⟩) (fun _ => rfl) ?rest72
           case hy72 => (intro w hSw; (try dsimp only at hSw); go_simp; try with_reducible rfl))
        | (refine ordP_take (i := 3) (oi := { dst := some 17, op := Op.move (Operand.tmp 3), type := 3, pos := _, after := #[{ on := 13, ground := Ground.gcOnly Departure.lateStores }], guard := none }) (v := undef) rfl (by kernel_rfl) (by kernel_rfl) (by kernel_rfl) (by kernel_rfl) (fun _ _ _ h => h) (fun h => by first | assumption | (exact absurd h (by decide))) (by decide) (Or.inr ⟨by rfl, rfl⟩) (fun _ => rfl) ?_)
      try simp only [Act.put, List.setIfInBounds_toArray, List.set_cons_zero, List.set_cons_succ]
      first
        | (refine' ordP_take (i := 8) (oi := { dst := some 22, op := Op.move (Operand.tmp 0), type := 33, pos := _, after := #[], guard := none }) (v := _) rfl (by kernel_rfl) (by kernel_rfl) (by kernel_rfl) (by kernel_rfl) (fun _ _ _ h => h) (fun h => by first | assumption | (exact absurd h (by decide))) (by decide) (Or.inl ⟨by rfl, ?hy73⟩) (fun _ => rfl) ?rest73
           case hy73 => (intro w hSw; (try dsimp only at hSw); go_simp; try with_reducible rfl))
        | (refine ordP_take (i := 8) (oi := { dst := some 22, op := Op.move (Operand.tmp 0), type := 33, pos := _, after := #[], guard := none }) (v := undef) rfl (by kernel_rfl) (by kernel_rfl) (by kernel_rfl) (by kernel_rfl) (fun _ _ _ h => h) (fun h => by first | assumption | (exact absurd h (by decide))) (by decide) (Or.inr ⟨by rfl, rfl⟩) (fun _ => rfl) ?_)
      try simp only [Act.put, List.setIfInBounds_toArray, List.set_cons_zero, List.set_cons_succ]
      first
        | (refine' ordP_take (i := 9) (oi := { dst := some 23, op := Op.move (Operand.tmp 2), type := 3, pos := _, after := #[], guard := none }) (v := _) rfl (by kernel_rfl) (by kernel_rfl) (by kernel_rfl) (by kernel_rfl) (fun _ _ _ h => h) (fun h => by first | assumption | (exact absurd h (by decide))) (by decide) (Or.inl ⟨by rfl, ?hy74⟩) (fun _ => rfl) ?rest74
           case hy74 => (intro w hSw; (try dsimp only at hSw); go_simp; try with_reducible rfl))
        | (refine ordP_take (i := 9) (oi := { dst := some 23, op := Op.move (Operand.tmp 2), type := 3, pos := _, after := #[], guard := none }) (v := undef) rfl (by kernel_rfl) (by kernel_rfl) (by kernel_rfl) (by kernel_rfl) (fun _ _ _ h => h) (fun h => by first | assumption | (exact absurd h (by decide))) (by decide) (Or.inr ⟨by rfl, rfl⟩) (fun _ => rfl) ?_)
      try simp only [Act.put, List.setIfInBounds_toArray, List.set_cons_zero, List.set_cons_succ]
      first
        | (refine' ordP_take (i := 10) (oi := { dst := some 24, op := Op.indexAddr 33 (Operand.tmp 22) (Operand.tmp 23), type := 0, pos := _, after := #[{ on := 8, ground := Ground.data }, { on := 9, ground := Ground.data }], guard := none }) (v := _) rfl (by kernel_rfl) (by kernel_rfl) (by kernel_rfl) (by kernel_rfl) (fun _ _ _ h => h) (fun h => by first | assumption | (exact absurd h (by decide))) (by decide) (Or.inl ⟨by rfl, ?hy75⟩) (fun _ => rfl) ?rest75
           case hy75 => (intro w hSw; (try dsimp only at hSw); go_simp; try with_reducible rfl))
        | (refine ordP_take (i := 10) (oi := { dst := some 24, op := Op.indexAddr 33 (Operand.tmp 22) (Operand.tmp 23), type := 0, pos := _, after := #[{ on := 8, ground := Ground.data }, { on := 9, ground := Ground.data }], guard := none }) (v := undef) rfl (by kernel_rfl) (by kernel_rfl) (by kernel_rfl) (by kernel_rfl) (fun _ _ _ h => h) (fun h => by first | assumption | (exact absurd h (by decide))) (by decide) (Or.inr ⟨by rfl, rfl⟩) (fun _ => rfl) ?_)
      try simp only [Act.put, List.setIfInBounds_toArray, List.set_cons_zero, List.set_cons_succ]
      first
        | (refine' ordZ_take (i := 11) (oi := { dst := some 25, op := Op.load 28 (Operand.tmp 24), type := 28, pos := _, after := #[{ on := 10, ground := Ground.data }], guard := none }) (v := _) rfl (by kernel_rfl) (by kernel_rfl) (by kernel_rfl) (by kernel_rfl) (fun _ _ _ h => h) (by assumption) (by kernel_rfl) (by decide) (by rfl) (Or.inl ⟨by rfl, ?hy76⟩) (fun _ => rfl) ?rest76
           case hy76 => (intro w hSw; (try dsimp only at hSw); go_simp; try with_reducible rfl))
        | (refine ordZ_take (i := 11) (oi := { dst := some 25, op := Op.load 28 (Operand.tmp 24), type := 28, pos := _, after := #[{ on := 10, ground := Ground.data }], guard := none }) (v := undef) rfl (by kernel_rfl) (by kernel_rfl) (by kernel_rfl) (by kernel_rfl) (fun _ _ _ h => h) (by assumption) (by kernel_rfl) (by decide) (by rfl) (Or.inr ⟨by rfl, rfl⟩) (fun _ => rfl) ?_)
      try simp only [Act.put, List.setIfInBounds_toArray, List.set_cons_zero, List.set_cons_succ]
      first
        | (refine' ordZ_take (i := 12) (oi := { dst := some 26, op := Op.indexAddr 33 (Operand.tmp 14) (Operand.tmp 15), type := 0, pos := _, after := #[{ on := 0, ground := Ground.data }, { on := 1, ground := Ground.data }, { on := 0, ground := Ground.phase }, { on := 1, ground := Ground.phase }, { on := 2, ground := Ground.textOnly Departure.lateStores }, { on := 3, ground := Ground.textOnly Departure.lateStores }, { on := 4, ground := Ground.phase }, { on := 5, ground := Ground.phase }, { on := 6, ground := Ground.phase }, { on := 7, ground := Ground.phase }, { on := 8, ground := Ground.textOnly Departure.lateStores }, { on := 9, ground := Ground.textOnly Departure.lateStores }, { on := 10, ground := Ground.textOnly Departure.lateStoresUnsure }, { on := 11, ground := Ground.phase }], guard := none }) (v := _) rfl (by kernel_rfl) (by kernel_rfl) (by kernel_rfl) (by kernel_rfl) (fun _ _ _ h => h) (by assumption) (by kernel_rfl) (by decide) (by rfl) (Or.inl ⟨by rfl, ?hy77⟩) (fun _ => rfl) ?rest77
           case hy77 => (intro w hSw; (try dsimp only at hSw); go_simp; try with_reducible rfl))
        | (refine ordZ_take (i := 12) (oi := { dst := some 26, op := Op.indexAddr 33 (Operand.tmp 14) (Operand.tmp 15), type := 0, pos := _, after := #[{ on := 0, ground := Ground.data }, { on := 1, ground := Ground.data }, { on := 0, ground := Ground.phase }, { on := 1, ground := Ground.phase }, { on := 2, ground := Ground.textOnly Departure.lateStores }, { on := 3, ground := Ground.textOnly Departure.lateStores }, { on := 4, ground := Ground.phase }, { on := 5, ground := Ground.phase }, { on := 6, ground := Ground.phase }, { on := 7, ground := Ground.phase }, { on := 8, ground := Ground.textOnly Departure.lateStores }, { on := 9, ground := Ground.textOnly Departure.lateStores }, { on := 10, ground := Ground.textOnly Departure.lateStoresUnsure }, { on := 11, ground := Ground.phase }], guard := none }) (v := undef) rfl (by kernel_rfl) (by kernel_rfl) (by kernel_rfl) (by kernel_rfl) (fun _ _ _ h => h) (by assumption) (by kernel_rfl) (by decide) (by rfl) (Or.inr ⟨by rfl, rfl⟩) (fun _ => rfl) ?_)
      try simp only [Act.put, List.setIfInBounds_toArray, List.set_cons_zero, List.set_cons_succ]
      refine ordZ_one (i := 13) (o := { dst := none, op := Op.store 28 (Operand.tmp 26) (Operand.tmp 21), type := 0, pos := _, after := #[{ on := 12, ground := Ground.data }, { on := 7, ground := Ground.data }, { on := 0, ground := Ground.phase }, { on := 1, ground := Ground.phase }, { on := 2, ground := Ground.textOnly Departure.lateStores }, { on := 3, ground := Ground.textOnly Departure.lateStores }, { on := 4, ground := Ground.phase }, { on := 5, ground := Ground.phase }, { on := 6, ground := Ground.phase }, { on := 7, ground := Ground.phase }, { on := 8, ground := Ground.textOnly Departure.lateStores }, { on := 9, ground := Ground.textOnly Departure.lateStores }, { on := 10, ground := Ground.textOnly Departure.lateStoresUnsure }, { on := 11, ground := Ground.phase }], guard := none }) (by kernel_rfl) rfl (by rfl) (fun K hK => ?_)
      go_simp
      have hrow2 := own_setC HROW.out k y
      have a3 : ((revK xs k).set k y)[j]? = some y := by rw [List.getElem?_set, if_neg hkj]; exact HA2.out
      obtain ⟨v0, v1⟩ := own_cellC hrow2 a3
      have w0 := hrow2.frozenAt (j * 2)
      have w1 := hrow2.frozenAt (j * 2 + 1)
      have hrow3 := own_setC hrow2 j x
      rw [HST.out] at hrow3
      have HROW3 := Lib.hid hrow3
      have hB3 : Below B w ((((wr.setCell ⟨g, k * 2, none⟩ (.int .i64 y.1)).setCell ⟨g, k * 2 + 1, none⟩ (.int .i64 y.2)).setCell ⟨g, j * 2, none⟩ (.int .i64 x.1)).setCell ⟨g, j * 2 + 1, none⟩ (.int .i64 x.2)) :=
        (((HB.out.setCell (p := ⟨g, k * 2, none⟩) hgB _).setCell (p := ⟨g, k * 2 + 1, none⟩) hgB _).setCell (p := ⟨g, j * 2, none⟩) hgB _).setCell (p := ⟨g, j * 2 + 1, none⟩) hgB _
      have HB3 := Lib.hid hB3
      clear hrow2 hrow3 hB3 a3
      generalize (wr.setCell ⟨g, k * 2, none⟩ (.int .i64 y.1)).setCell ⟨g, k * 2 + 1, none⟩ (.int .i64 y.2) = W5 at *
      refine hK _ _ (fun h => by cases h) ?_
      clear hK K hH
      try simp only [Act.put, List.setIfInBounds_toArray, List.set_cons_zero, List.set_cons_succ]
      first
        | (refine' ordP_take (i := 14) (oi := { dst := some 27, op := Op.indexAddr 33 (Operand.tmp 16) (Operand.tmp 17), type := 0, pos := _, after := #[{ on := 2, ground := Ground.data }, { on := 3, ground := Ground.data }, { on := 0, ground := Ground.phase }, { on := 1, ground := Ground.phase }, { on := 2, ground := Ground.phase }, { on := 3, ground := Ground.phase }, { on := 4, ground := Ground.phase }, { on := 5, ground := Ground.phase }, { on := 6, ground := Ground.phase }, { on := 7, ground := Ground.phase }, { on := 8, ground := Ground.phase }, { on := 9, ground := Ground.phase }, { on := 10, ground := Ground.phase }, { on := 11, ground := Ground.phase }, { on := 12, ground := Ground.phase }, { on := 13, ground := Ground.phase }], guard := none }) (v := _) rfl (by kernel_rfl) (by kernel_rfl) (by kernel_rfl) (by kernel_rfl) (fun _ _ _ h => h) (fun h => by first | assumption | (exact absurd h (by decide))) (by decide) (Or.inl ⟨by rfl, ?hy78⟩) (fun _ => rfl) ?rest78
           case hy78 => (intro w hSw; (try dsimp only at hSw); go_simp; try with_reducible rfl))
        | (refine ordP_take (i := 14) (oi := { dst := some 27, op := Op.indexAddr 33 (Operand.tmp 16) (Operand.tmp 17), type := 0, pos := _, after := #[{ on := 2, ground := Ground.data }, { on := 3, ground := Ground.data }, { on := 0, ground := Ground.phase }, { on := 1, ground := Ground.phase }, { on := 2, ground := Ground.phase }, { on := 3, ground := Ground.phase }, { on := 4, ground := Ground.phase }, { on := 5, ground := Ground.phase }, { on := 6, ground := Ground.phase }, { on := 7, ground := Ground.phase }, { on := 8, ground := Ground.phase }, { on := 9, ground := Ground.phase }, { on := 10, ground := Ground.phase }, { on := 11, ground := Ground.phase }, { on := 12, ground := Ground.phase }, { on := 13, ground := Ground.phase }], guard := none }) (v := undef) rfl (by kernel_rfl) (by kernel_rfl) (by kernel_rfl) (by kernel_rfl) (fun _ _ _ h => h) (fun h => by first | assumption | (exact absurd h (by decide))) (by decide) (Or.inr ⟨by rfl, rfl⟩) (fun _ => rfl) ?_)
      try simp only [Act.put, List.setIfInBounds_toArray, List.set_cons_zero, List.set_cons_succ]
      refine ordZ_one (i := 15) (o := { dst := none, op := Op.store 28 (Operand.tmp 27) (Operand.tmp 25), type := 0, pos := _, after := #[{ on := 14, ground := Ground.data }, { on := 11, ground := Ground.data }, { on := 13, ground := Ground.chain }, { on := 0, ground := Ground.phase }, { on := 1, ground := Ground.phase }, { on := 2, ground := Ground.phase }, { on := 3, ground := Ground.phase }, { on := 4, ground := Ground.phase }, { on := 5, ground := Ground.phase }, { on := 6, ground := Ground.phase }, { on := 7, ground := Ground.phase }, { on := 8, ground := Ground.phase }, { on := 9, ground := Ground.phase }, { on := 10, ground := Ground.phase }, { on := 11, ground := Ground.phase }, { on := 12, ground := Ground.phase }, { on := 13, ground := Ground.phase }], guard := none }) (by kernel_rfl) rfl (by rfl) (fun K hK => ?_)
      go_simp
      refine hK _ _ (fun h => by cases h) ?_
      clear hK K
      try simp only [Act.put, List.setIfInBounds_toArray, List.set_cons_zero, List.set_cons_succ]
      refine ordZ_done (by kernel_rfl) ?_
      go_wp2
      refine ⟨⟨k + 1, HK.out, by go_num, ?_, HROW3.out, HB3.out.drew⟩, by simp [intOf]; have := HK.out; omega⟩
      have e := HJ.out
      rw [show ((k + 1 : Nat) : Int) = (k : Int) + 1 by omega, e]
    · have hge : ¬ ((k : Int) < (n : Int) - 1 - (k : Int)) := by omega
      have HR := Lib.hid (revK_all xs (k := k) (by have := HN.out; omega))
      go_wp2
      go_end0
      exact ⟨rfl, by rw [← HR.out]; exact hrow, hB⟩
set_option maxRecDepth 100000 in
set_option maxHeartbeats 1600000 in
theorem eql_cell (a b : IC) (w : World) : (Op.equalIn 10000 28 (.agg #[.int .i64 a.1, .int .i64 a.2]) (.agg #[.int .i64 b.1, .int .i64 b.2])).run Tryd.prog w = .ok (decide (a = b)) w := by
  have u1 := Tryd.underlying28
  have u3 := Tryd.underlying3
  obtain ⟨r, hr⟩ : ∃ r, decide (a = b) = r := ⟨_, rfl⟩
  rw [hr]
  by_cases h1 : a.1 = b.1
  · have n1 : (a.1 == b.1) = true := by rw [beq_iff_eq]; exact h1
    by_cases h2 : a.2 = b.2
    · have n2 : (a.2 == b.2) = true := by rw [beq_iff_eq]; exact h2
      have e : r = true := by rw [← hr]; exact decide_eq_true (Prod.ext h1 h2)
      subst e
      clear h1 h2 hr
      go_simp
    · have n2 : (a.2 == b.2) = false := by rw [beq_eq_false_iff_ne]; exact h2
      have e : r = false := by rw [← hr]; exact decide_eq_false (fun q => h2 (by rw [q]))
      subst e
      clear h1 h2 hr
      go_simp
  · have n1 : (a.1 == b.1) = false := by rw [beq_eq_false_iff_ne]; exact h1
    have e : r = false := by rw [← hr]; exact decide_eq_false (fun q => h1 (by rw [q]))
    subst e
    clear h1 hr
    go_simp
end Go.Proofs.YtldpajfendkhbaaDoor
