/- Cache: slices.IndexFunc over things; the place of a key. -/
import Derived.Test.YtbmpgafndpdnbaaEc
namespace Go.Proofs.Ytbmpgafndpdnbaa
open Go.RowKit Go.Maps

/-- A row of pointers to things. -/
def RowP (W : World) (a : Option Addr) (L : List (Nat × IT)) : Prop :=
  L = [] ∨ ∃ g, a = some ⟨g, 0, none⟩ ∧ ∀ (i : Nat) y, L[i]? = some y → W.cell? ⟨g, i, none⟩ = some (ptrV y.1)
theorem RowP.below {W W' : World} {a : Option Addr} {L : List (Nat × IT)} (h : RowP W a L) (hb : Below W.heap.size W W') : RowP W' a L := by
  rcases h with h | ⟨g, e, h⟩
  · exact .inl h
  · exact .inr ⟨g, e, fun i y hy => cell_later hb (h i y hy)⟩
theorem CAt.rowP {c : CTy} {W : World} {p n cap : Nat} {a : Option Addr} {L : List (Nat × IT)} {r : Int} (h : CAt c W p (.slice a n cap) L r) : RowP W a L := by
  by_cases h0 : 0 < L.length
  · obtain ⟨g, cap', e, _⟩ := h.slice h0
    have e2 := e
    injection e2 with e3 e4 e5
    exact .inr ⟨g, e3, fun i y hy => h.ptr e hy⟩
  · exact .inl (List.eq_nil_of_length_eq_zero (by omega))
def idxV (o : Option Nat) : Int := match o with | some i => (i : Int) | none => -1
theorem findIdx_step {α : Type} {pr : α → Bool} {L : List α} {k : Nat} {y : α} (hall : ∀ z ∈ L.take k, pr z = false) (hy : L[k]? = some y) (hp : pr y = true) : L.findIdx? pr = some k := by
  obtain ⟨hk, e⟩ := List.getElem?_eq_some_iff.1 hy
  rw [List.findIdx?_eq_some_iff_getElem]
  refine ⟨hk, by rw [e]; exact hp, fun j hj => ?_⟩
  have := hall (L[j]) (List.mem_take_iff_getElem.2 ⟨j, by omega, rfl⟩)
  rw [this]; decide
theorem findIdx_end {α : Type} {pr : α → Bool} {L : List α} (hall : ∀ z ∈ L, pr z = false) : L.findIdx? pr = none := by
  rw [List.findIdx?_eq_none_iff]
  exact hall
set_option maxRecDepth 100000 in
set_option maxHeartbeats 4000000 in
theorem index_p1 (cv : Value) (pr : (Nat × IT) → Bool) (a : Option Addr) (cap : Nat) (L : List (Nat × IT)) (w : World) (hl : L.length ≤ 1000) (hr : RowP w a L)
    (hF : ∀ y ∈ L, ∀ W', Below w.heap.size w W' → Calls Try.prog 48 #[ptrV y.1, cv] W' fun e w' => e = .returned (.bool (pr y)) ∧ Below W'.heap.size W' w') :
    Calls Try.prog 47 #[.slice a L.length cap, .func (.func 48) #[] #[cv]] w fun e w' => e = .returned (.int .i64 (idxV (L.findIdx? pr))) ∧ Below w.heap.size w w' := by
  obtain ⟨n, hn⟩ : ∃ n, L.length = n := ⟨_, rfl⟩
  rw [hn] at hl ⊢
  have HN := Lib.hid hn
  have HR := Lib.hid hr
  have HF := Lib.hid hF
  clear hr hn hF
  go_enter Try.func47, Try.ntmps47
  go_wp2_with fail
  go_loopw [5, 8] (fun _ i wr => ∃ k : Nat, k ≤ n ∧ i = .int .i64 k ∧ Hid (∀ z ∈ L.take k, pr z = false) ∧ Below w.heap.size w wr) (fun _ i _ => n - (intOf i).toNat)
  case atStart => exact ⟨0, Nat.zero_le _, rfl, (fun z hz => by simp at hz), bl0 _⟩
  case round =>
    obtain ⟨k, hk, rfl, hall, hA⟩ := hrel
    have hk0 : (0 : Int) ≤ (k : Int) := by omega
    have HA := Lib.hid hA
    clear hA
    by_cases hlt : k < n
    · have hlt2 : (k : Int) < (n : Int) := by omega
      have hkl : k < L.length := by rw [HN.out]; exact hlt
      have hy : L[k]? = some L[k] := List.getElem?_eq_getElem hkl
      have hm : L[k] ∈ L := List.getElem_mem hkl
      obtain ⟨y, hyy⟩ : ∃ y, L[k] = y := ⟨_, rfl⟩
      rw [hyy] at hy hm
      obtain ⟨g, rfl, c0⟩ : ∃ g, a = some ⟨g, 0, none⟩ ∧ wr.cell? ⟨g, k, none⟩ = some (ptrV y.1) := by
        rcases HR.out with e | ⟨g, e, h⟩
        · rw [e] at hy; simp at hy
        · exact ⟨g, e, cell_later HA.out (h k y hy)⟩
      have HY := Lib.hid hy
      have HM := Lib.hid hm
      have zc := blk_lt c0
      clear hy hyy hkl hm
      go_wp2_with fail
      refine (HF.out y HM.out _ HA.out).mono ?_
      rintro e w2 ⟨rfl, hb⟩
      have HB := Lib.hid (bl_tr HA.out hb)
      clear hb c0 zc
      cases he : pr y
      · have HE := Lib.hid (show ∀ z ∈ L.take (k + 1), pr z = false from fun z hz => by
          have hkl := (List.getElem?_eq_some_iff.1 HY.out).1
          have h2 := (List.getElem?_eq_some_iff.1 HY.out).2
          rw [List.take_succ_eq_append_getElem hkl, h2, List.mem_append, List.mem_singleton] at hz
          rcases hz with hz | rfl
          · exact hall.out z hz
          · exact he)
        clear he
        go_wp2
        go_roundw
        case rel => exact ⟨k + 1, by omega, by go_num, HE, HB.out⟩
        case measure => simp [intOf]; omega
      · have HX := Lib.hid (show idxV (L.findIdx? pr) = k by rw [findIdx_step hall.out HY.out he]; rfl)
        clear he
        go_wp2
        go_ret
        exact ⟨ret_int HX.out.symm, HB.out⟩
    · obtain rfl : k = n := by omega
      have hge : ¬ (k : Int) < (k : Int) := by omega
      have HX := Lib.hid (show idxV (L.findIdx? pr) = -1 by rw [findIdx_end (fun z hz => hall.out z (by rw [← HN.out, List.take_length]; exact hz))]; rfl)
      go_wp2
      go_ret
      exact ⟨ret_int HX.out.symm, HA.out⟩
set_option maxRecDepth 100000 in
set_option maxHeartbeats 4000000 in
theorem index_d1 (cv : Value) (pr : (Nat × IT) → Bool) (a : Option Addr) (cap : Nat) (L : List (Nat × IT)) (w : World) (hl : L.length ≤ 1000) (hr : RowP w a L)
    (hF : ∀ y ∈ L, ∀ W', Below w.heap.size w W' → Calls Try.prog 43 #[ptrV y.1, cv] W' fun e w' => e = .returned (.bool (pr y)) ∧ Below W'.heap.size W' w') :
    Calls Try.prog 47 #[.slice a L.length cap, .func (.func 43) #[] #[cv]] w fun e w' => e = .returned (.int .i64 (idxV (L.findIdx? pr))) ∧ Below w.heap.size w w' := by
  obtain ⟨n, hn⟩ : ∃ n, L.length = n := ⟨_, rfl⟩
  rw [hn] at hl ⊢
  have HN := Lib.hid hn
  have HR := Lib.hid hr
  have HF := Lib.hid hF
  clear hr hn hF
  go_enter Try.func47, Try.ntmps47
  go_wp2_with fail
  go_loopw [5, 8] (fun _ i wr => ∃ k : Nat, k ≤ n ∧ i = .int .i64 k ∧ Hid (∀ z ∈ L.take k, pr z = false) ∧ Below w.heap.size w wr) (fun _ i _ => n - (intOf i).toNat)
  case atStart => exact ⟨0, Nat.zero_le _, rfl, (fun z hz => by simp at hz), bl0 _⟩
  case round =>
    obtain ⟨k, hk, rfl, hall, hA⟩ := hrel
    have hk0 : (0 : Int) ≤ (k : Int) := by omega
    have HA := Lib.hid hA
    clear hA
    by_cases hlt : k < n
    · have hlt2 : (k : Int) < (n : Int) := by omega
      have hkl : k < L.length := by rw [HN.out]; exact hlt
      have hy : L[k]? = some L[k] := List.getElem?_eq_getElem hkl
      have hm : L[k] ∈ L := List.getElem_mem hkl
      obtain ⟨y, hyy⟩ : ∃ y, L[k] = y := ⟨_, rfl⟩
      rw [hyy] at hy hm
      obtain ⟨g, rfl, c0⟩ : ∃ g, a = some ⟨g, 0, none⟩ ∧ wr.cell? ⟨g, k, none⟩ = some (ptrV y.1) := by
        rcases HR.out with e | ⟨g, e, h⟩
        · rw [e] at hy; simp at hy
        · exact ⟨g, e, cell_later HA.out (h k y hy)⟩
      have HY := Lib.hid hy
      have HM := Lib.hid hm
      have zc := blk_lt c0
      clear hy hyy hkl hm
      go_wp2_with fail
      refine (HF.out y HM.out _ HA.out).mono ?_
      rintro e w2 ⟨rfl, hb⟩
      have HB := Lib.hid (bl_tr HA.out hb)
      clear hb c0 zc
      cases he : pr y
      · have HE := Lib.hid (show ∀ z ∈ L.take (k + 1), pr z = false from fun z hz => by
          have hkl := (List.getElem?_eq_some_iff.1 HY.out).1
          have h2 := (List.getElem?_eq_some_iff.1 HY.out).2
          rw [List.take_succ_eq_append_getElem hkl, h2, List.mem_append, List.mem_singleton] at hz
          rcases hz with hz | rfl
          · exact hall.out z hz
          · exact he)
        clear he
        go_wp2
        go_roundw
        case rel => exact ⟨k + 1, by omega, by go_num, HE, HB.out⟩
        case measure => simp [intOf]; omega
      · have HX := Lib.hid (show idxV (L.findIdx? pr) = k by rw [findIdx_step hall.out HY.out he]; rfl)
        clear he
        go_wp2
        go_ret
        exact ⟨ret_int HX.out.symm, HB.out⟩
    · obtain rfl : k = n := by omega
      have hge : ¬ (k : Int) < (k : Int) := by omega
      have HX := Lib.hid (show idxV (L.findIdx? pr) = -1 by rw [findIdx_end (fun z hz => hall.out z (by rw [← HN.out, List.take_length]; exact hz))]; rfl)
      go_wp2
      go_ret
      exact ⟨ret_int HX.out.symm, HA.out⟩
end Go.Proofs.Ytbmpgafndpdnbaa
