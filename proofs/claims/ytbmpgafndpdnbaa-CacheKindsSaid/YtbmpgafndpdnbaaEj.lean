/- Cache: Keys; two rows of numbers held against each other. -/
import Derived.Test.YtbmpgafndpdnbaaEi
import Derived.Laws.AppendOwnNone
namespace Go.Proofs.Ytbmpgafndpdnbaa
open Go.RowKit Go.Maps

/-- A row of numbers. -/
def RowI (W : World) (a : Option Addr) (is : List Int) : Prop :=
  is = [] ∨ ∃ g o, a = some ⟨g, o, none⟩ ∧ ∀ (i : Nat) z, is[i]? = some z → W.cell? ⟨g, o + i, none⟩ = some (.int .i64 z)
theorem RowI.below {W W' : World} {a : Option Addr} {is : List Int} (h : RowI W a is) (hb : Below W.heap.size W W') : RowI W' a is := by
  rcases h with h | ⟨g, o, e, h⟩
  · exact .inl h
  · exact .inr ⟨g, o, e, fun i y hy => cell_later hb (h i y hy)⟩
theorem own_rowI {W : World} {B n cap : Nat} {a : Option Addr} {is : List Int} (h : W.ownsRow B 3 1 (.slice a n cap) n (cellsI is)) (hn : is.length = n) : RowI W a is := by
  have h0 := h
  rcases h.2 with ⟨_, e⟩ | ⟨g, c, cur, e, _⟩
  · exact .inl (List.eq_nil_of_length_eq_zero (by omega))
  · cases e
    refine .inr ⟨g, 0, rfl, fun i z hz => ?_⟩
    have := h0.cells (g := g) rfl i (.int .i64 z) (by rw [cellsI, List.getElem?_map, hz]; rfl)
    rw [hadd] at this
    rw [Nat.zero_add]
    exact this
theorem eqRow_step {is js : List Int} {k : Nat} (h : is.take k = js.take k) {x y : Int} (hx : is[k]? = some x) (hy : js[k]? = some y) (e : x = y) : is.take (k + 1) = js.take (k + 1) := by
  obtain ⟨h1, e1⟩ := List.getElem?_eq_some_iff.1 hx
  obtain ⟨h2, e2⟩ := List.getElem?_eq_some_iff.1 hy
  rw [List.take_succ_eq_append_getElem h1, List.take_succ_eq_append_getElem h2, h, e1, e2, e]
set_option maxRecDepth 100000 in
set_option maxHeartbeats 4000000 in
theorem ints_any (a b : Option Addr) (ca cb : Nat) (is js : List Int) (w : World) (hl : is.length ≤ 100000) (hl2 : js.length ≤ 100000) (ha : RowI w a is) (hb : RowI w b js) :
    Calls Try.prog 22 #[.slice a is.length ca, .slice b js.length cb] w fun e w' => e = .returned (.bool (decide (is = js))) ∧ Below w.heap.size w w' := by
  obtain ⟨t, ht⟩ : ∃ t, decide (is = js) = t := ⟨_, rfl⟩
  obtain ⟨n, hn⟩ : ∃ n, is.length = n := ⟨_, rfl⟩
  obtain ⟨m, hm⟩ : ∃ m, js.length = m := ⟨_, rfl⟩
  rw [hn] at hl; rw [hm] at hl2
  rw [ht, hn, hm]
  have HT := Lib.hid ht
  have HN := Lib.hid hn
  have HM := Lib.hid hm
  have HA := Lib.hid ha
  have HB := Lib.hid hb
  clear ht hn hm ha hb
  by_cases hnm : n = m
  · subst hnm
    go_enter Try.func22, Try.ntmps22
    go_wp2_with fail
    go_loopw [5] (fun i wr => ∃ k : Nat, k ≤ n ∧ i = .int .i64 k ∧ Hid (is.take k = js.take k) ∧ Below w.heap.size w wr) (fun i _ => n - (intOf i).toNat)
    case atStart => exact ⟨0, Nat.zero_le _, rfl, rfl, bl0 _⟩
    case round =>
      obtain ⟨k, hk, rfl, hall, hA⟩ := hrel
      have hk0 : (0 : Int) ≤ (k : Int) := by omega
      have hC := Lib.hid hA
      clear hA
      by_cases hlt : k < n
      · have hlt2 : (k : Int) < (n : Int) := by omega
        obtain ⟨x, hx⟩ : ∃ x, is[k]? = some x := ⟨_, List.getElem?_eq_getElem (by rw [HN.out]; exact hlt)⟩
        obtain ⟨y, hy⟩ : ∃ y, js[k]? = some y := ⟨_, List.getElem?_eq_getElem (by rw [HM.out]; exact hlt)⟩
        obtain ⟨g, o, rfl, c0⟩ : ∃ g o, a = some ⟨g, o, none⟩ ∧ wr.cell? ⟨g, o + k, none⟩ = some (.int .i64 x) := by
          rcases HA.out with e | ⟨g, o, e, h⟩
          · rw [e] at hx; simp at hx
          · exact ⟨g, o, e, cell_later hC.out (h k x hx)⟩
        obtain ⟨g2, o2, rfl, c1⟩ : ∃ g o, b = some ⟨g, o, none⟩ ∧ wr.cell? ⟨g, o + k, none⟩ = some (.int .i64 y) := by
          rcases HB.out with e | ⟨g, o, e, h⟩
          · rw [e] at hy; simp at hy
          · exact ⟨g, o, e, cell_later hC.out (h k y hy)⟩
        have HX := Lib.hid hx
        have HY := Lib.hid hy
        have hD := bl_dr (bl0 wr)
        clear hx hy
        go_upto_region 6 with fail
        refine (wpIn_wide (n := 11)).1 ?_
        refine ordS_begin (S := (fun w' : World => w'.cell? ⟨g, o + k, none⟩ = some (.int .i64 x) ∧ w'.cell? ⟨g2, o2 + k, none⟩ = some (.int .i64 y))) (by kernel_rfl) ⟨cell_later hD c0, cell_later hD c1⟩ (fun hH => ?_)
        refine' ordS_take (i := 0) (oi := { dst := some 17, op := Op.move (Operand.tmp 0), type := 47, pos := _, after := #[], guard := none }) (v := _) rfl (by kernel_rfl) (by kernel_rfl) (by kernel_rfl) (by kernel_rfl) (fun _ _ _ h => h) (by assumption) (Or.inl ⟨by rfl, ?hy1⟩) (fun _ => rfl) ?rest1
        case hy1 => (intro w hSw; (try dsimp only at hSw); go_simp; try with_reducible rfl)
        try simp only [Act.put, List.setIfInBounds_toArray, List.set_cons_zero, List.set_cons_succ]
        refine' ordS_take (i := 1) (oi := { dst := some 18, op := Op.move (Operand.tmp 5), type := 3, pos := _, after := #[], guard := none }) (v := _) rfl (by kernel_rfl) (by kernel_rfl) (by kernel_rfl) (by kernel_rfl) (fun _ _ _ h => h) (by assumption) (Or.inl ⟨by rfl, ?hy2⟩) (fun _ => rfl) ?rest2
        case hy2 => (intro w hSw; (try dsimp only at hSw); go_simp; try with_reducible rfl)
        try simp only [Act.put, List.setIfInBounds_toArray, List.set_cons_zero, List.set_cons_succ]
        refine' ordS_take (i := 2) (oi := { dst := some 19, op := Op.indexAddr 47 (Operand.tmp 17) (Operand.tmp 18), type := 0, pos := _, after := #[{ on := 0, ground := Ground.data }, { on := 1, ground := Ground.data }], guard := none }) (v := _) rfl (by kernel_rfl) (by kernel_rfl) (by kernel_rfl) (by kernel_rfl) (fun _ _ _ h => h) (by assumption) (Or.inl ⟨by rfl, ?hy3⟩) (fun _ => rfl) ?rest3
        case hy3 => (intro w hSw; (try dsimp only at hSw); go_simp; try with_reducible rfl)
        try simp only [Act.put, List.setIfInBounds_toArray, List.set_cons_zero, List.set_cons_succ]
        refine' ordS_take (i := 3) (oi := { dst := some 20, op := Op.load 3 (Operand.tmp 19), type := 3, pos := _, after := #[{ on := 2, ground := Ground.data }], guard := none }) (v := _) rfl (by kernel_rfl) (by kernel_rfl) (by kernel_rfl) (by kernel_rfl) (fun _ _ _ h => h) (by assumption) (Or.inl ⟨by rfl, ?hy4⟩) (fun _ => rfl) ?rest4
        case hy4 => (intro w hSw; (try dsimp only at hSw); go_simp; try with_reducible rfl)
        try simp only [Act.put, List.setIfInBounds_toArray, List.set_cons_zero, List.set_cons_succ]
        refine' ordS_take (i := 4) (oi := { dst := some 21, op := Op.move (Operand.tmp 1), type := 47, pos := _, after := #[], guard := none }) (v := _) rfl (by kernel_rfl) (by kernel_rfl) (by kernel_rfl) (by kernel_rfl) (fun _ _ _ h => h) (by assumption) (Or.inl ⟨by rfl, ?hy5⟩) (fun _ => rfl) ?rest5
        case hy5 => (intro w hSw; (try dsimp only at hSw); go_simp; try with_reducible rfl)
        try simp only [Act.put, List.setIfInBounds_toArray, List.set_cons_zero, List.set_cons_succ]
        refine' ordS_take (i := 5) (oi := { dst := some 22, op := Op.move (Operand.tmp 5), type := 3, pos := _, after := #[], guard := none }) (v := _) rfl (by kernel_rfl) (by kernel_rfl) (by kernel_rfl) (by kernel_rfl) (fun _ _ _ h => h) (by assumption) (Or.inl ⟨by rfl, ?hy6⟩) (fun _ => rfl) ?rest6
        case hy6 => (intro w hSw; (try dsimp only at hSw); go_simp; try with_reducible rfl)
        try simp only [Act.put, List.setIfInBounds_toArray, List.set_cons_zero, List.set_cons_succ]
        refine' ordS_take (i := 6) (oi := { dst := some 23, op := Op.indexAddr 47 (Operand.tmp 21) (Operand.tmp 22), type := 0, pos := _, after := #[{ on := 4, ground := Ground.data }, { on := 5, ground := Ground.data }], guard := none }) (v := _) rfl (by kernel_rfl) (by kernel_rfl) (by kernel_rfl) (by kernel_rfl) (fun _ _ _ h => h) (by assumption) (Or.inl ⟨by rfl, ?hy7⟩) (fun _ => rfl) ?rest7
        case hy7 => (intro w hSw; (try dsimp only at hSw); go_simp; try with_reducible rfl)
        try simp only [Act.put, List.setIfInBounds_toArray, List.set_cons_zero, List.set_cons_succ]
        refine' ordS_take (i := 7) (oi := { dst := some 24, op := Op.load 3 (Operand.tmp 23), type := 3, pos := _, after := #[{ on := 6, ground := Ground.data }], guard := none }) (v := _) rfl (by kernel_rfl) (by kernel_rfl) (by kernel_rfl) (by kernel_rfl) (fun _ _ _ h => h) (by assumption) (Or.inl ⟨by rfl, ?hy8⟩) (fun _ => rfl) ?rest8
        case hy8 => (intro w hSw; (try dsimp only at hSw); go_simp; try with_reducible rfl)
        try simp only [Act.put, List.setIfInBounds_toArray, List.set_cons_zero, List.set_cons_succ]
        refine' ordS_take (i := 8) (oi := { dst := some 25, op := Op.binOp BinOp.neq 3 (Operand.tmp 20) (Operand.tmp 24) 3, type := 4, pos := _, after := #[{ on := 3, ground := Ground.data }, { on := 7, ground := Ground.data }], guard := none }) (v := _) rfl (by kernel_rfl) (by kernel_rfl) (by kernel_rfl) (by kernel_rfl) (fun _ _ _ h => h) (by assumption) (Or.inl ⟨by rfl, ?hy9⟩) (fun _ => rfl) ?rest9
        case hy9 => (intro w hSw; (try dsimp only at hSw); go_simp; try with_reducible rfl)
        try simp only [Act.put, List.setIfInBounds_toArray, List.set_cons_zero, List.set_cons_succ]
        refine ordS_done (by kernel_rfl) ?_
        clear hH c0 c1
        have HC2 := Lib.hid (bl_tr hC.out hD)
        clear hD
        by_cases he : x = y
        · have HE := Lib.hid (eqRow_step hall.out HX.out HY.out he)
          have hne : (x != y) = false := by simp [he]
          clear he
          go_wp2
          go_roundw
          case rel => exact ⟨k + 1, by omega, by go_num, HE, HC2.out⟩
          case measure => simp [intOf]; omega
        · have hne : (x != y) = true := by simp [he]
          have HF : Hid (t = false) := Lib.hid (by
            rw [← HT.out]
            refine decide_eq_false (fun e => he ?_)
            have h1 := HX.out
            rw [e, HY.out] at h1
            exact (Option.some.inj h1).symm)
          clear he
          go_wp2
          go_ret
          exact ⟨by rw [HF.out]; rfl, HC2.out⟩
      · obtain rfl : k = n := by omega
        have hge : ¬ (k : Int) < (k : Int) := by omega
        have HF : Hid (t = true) := Lib.hid (by
          rw [← HT.out]
          refine decide_eq_true ?_
          have := hall.out
          rw [← HN.out] at this
          have h2 : js.length = is.length := by rw [HM.out, HN.out]
          rw [List.take_length, ← h2, List.take_length] at this
          exact this)
        go_wp2
        go_ret
        exact ⟨by rw [HF.out]; rfl, hC.out⟩
  · have hne : ((n : Int) != (m : Int)) = true := by simp; omega
    have HF : Hid (t = false) := Lib.hid (by
      rw [← HT.out]
      refine decide_eq_false (fun e => hnm ?_)
      rw [← HN.out, ← HM.out, e])
    have HB0 := Lib.hid (bl0 w)
    go_enter Try.func22, Try.ntmps22
    go_wp2
    go_ret
    exact ⟨by rw [HF.out]; rfl, HB0.out⟩
end Go.Proofs.Ytbmpgafndpdnbaa
