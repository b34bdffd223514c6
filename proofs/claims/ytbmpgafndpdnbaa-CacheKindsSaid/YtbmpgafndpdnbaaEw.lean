/- Cache: slices.DeleteFunc over things. -/
import Derived.Test.YtbmpgafndpdnbaaEv
import Derived.Test.YtbmpgafndpdnbaaRcl
namespace Go.Proofs.Ytbmpgafndpdnbaa
open Go.RowKit Go.Maps

/-- The row while it is cut: what stays lies first, what was not yet looked at lies as it did. -/
structure DelP {α : Type} (pr : α → Bool) (zs : List α) (j : Nat) (D : List α) : Prop where
  len : D.length = zs.length
  lo : ∀ t, t < ((zs.take j).filter (fun y => !pr y)).length → D[t]? = ((zs.take j).filter (fun y => !pr y))[t]?
  hi : ∀ t, j ≤ t → D[t]? = zs[t]?
  cnt : ((zs.take j).filter (fun y => !pr y)).length < j
theorem delP_step {α : Type} {pr : α → Bool} {zs : List α} {j : Nat} {z : α} (hz : zs[j]? = some z) : (zs.take (j + 1)).filter (fun y => !pr y) = (zs.take j).filter (fun y => !pr y) ++ (if pr z then [] else [z]) := by
  have hj := (List.getElem?_eq_some_iff.1 hz).1
  have he := (List.getElem?_eq_some_iff.1 hz).2
  rw [List.take_succ_eq_append_getElem hj, List.filter_append, he]
  cases e : pr z <;> simp [e]
theorem DelP.start {α : Type} {pr : α → Bool} {zs : List α} {k : Nat} {z : α} (hall : ∀ z ∈ zs.take k, pr z = false) (hz : zs[k]? = some z) (hne : pr z = true) : DelP pr zs (k + 1) zs ∧ ((zs.take (k + 1)).filter (fun y => !pr y)).length = k := by
  have hk := (List.getElem?_eq_some_iff.1 hz).1
  have e : (zs.take (k + 1)).filter (fun y => !pr y) = zs.take k := by
    rw [delP_step hz, hne, if_pos rfl, List.append_nil]
    exact List.filter_eq_self.2 (fun y hy => by rw [hall y hy]; rfl)
  have hl : (zs.take k).length = k := by rw [List.length_take]; omega
  refine ⟨⟨rfl, fun t ht => ?_, fun t _ => rfl, by rw [e, hl]; omega⟩, by rw [e, hl]⟩
  rw [e] at ht ⊢
  rw [List.getElem?_take, if_pos (by omega)]
theorem DelP.keep {α : Type} {pr : α → Bool} {zs D : List α} {j : Nat} {z : α} (h : DelP pr zs j D) (hz : zs[j]? = some z) (he : pr z = false) : DelP pr zs (j + 1) (D.set ((zs.take j).filter (fun y => !pr y)).length z) ∧ ((zs.take (j + 1)).filter (fun y => !pr y)).length = ((zs.take j).filter (fun y => !pr y)).length + 1 := by
  have hj := (List.getElem?_eq_some_iff.1 hz).1
  have e : (zs.take (j + 1)).filter (fun y => !pr y) = (zs.take j).filter (fun y => !pr y) ++ [z] := by rw [delP_step hz, he]; rfl
  have hl := h.len
  have hc := h.cnt
  refine ⟨⟨by rw [List.length_set]; exact hl, fun t ht => ?_, fun t ht => ?_, by rw [e, List.length_append]; simp only [List.length_singleton]; omega⟩, by rw [e, List.length_append]; rfl⟩
  · rw [e] at ht ⊢
    rw [List.length_append, List.length_singleton] at ht
    by_cases q : t = ((zs.take j).filter (fun y => !pr y)).length
    · subst q
      rw [List.getElem?_set_self (by omega), List.getElem?_append_right (Nat.le_refl _), Nat.sub_self]
      rfl
    · rw [List.getElem?_set_ne (fun q2 => q q2.symm), List.getElem?_append_left (by omega)]
      exact h.lo t (by omega)
  · rw [List.getElem?_set_ne (by omega)]
    exact h.hi t (by omega)
theorem DelP.skip {α : Type} {pr : α → Bool} {zs D : List α} {j : Nat} {z : α} (h : DelP pr zs j D) (hz : zs[j]? = some z) (he : pr z = true) : DelP pr zs (j + 1) D ∧ ((zs.take (j + 1)).filter (fun y => !pr y)).length = ((zs.take j).filter (fun y => !pr y)).length := by
  have e : (zs.take (j + 1)).filter (fun y => !pr y) = (zs.take j).filter (fun y => !pr y) := by rw [delP_step hz, he, if_pos rfl, List.append_nil]
  have hc := h.cnt
  exact ⟨⟨h.len, by rw [e]; exact h.lo, fun t ht => h.hi t (by omega), by rw [e]; omega⟩, by rw [e]⟩
/-- What stays lies first. -/
theorem DelP.done {α : Type} {pr : α → Bool} {zs D : List α} (h : DelP pr zs zs.length D) : D.take (zs.filter (fun y => !pr y)).length = zs.filter (fun y => !pr y) := by
  have hlo := h.lo
  have hc := h.cnt
  have hl := h.len
  rw [List.take_length] at hlo hc
  apply List.ext_getElem?
  intro t
  rw [List.getElem?_take]
  by_cases ht : t < (zs.filter (fun y => !pr y)).length
  · rw [if_pos ht]; exact hlo t ht
  · rw [if_neg ht, List.getElem?_eq_none (by omega)]
theorem KeptS.ownrow {w w' : World} {e : TypeId} {g n cap : Nat} {xs : List Value} (h : w.ownsRow 0 e 1 (.slice (some ⟨g, 0, none⟩) n cap) n xs) (hb : Below w.heap.size w w') : w'.ownsRow 0 e 1 (.slice (some ⟨g, 0, none⟩) n cap) n xs := own_later h hb
theorem ptrs_set (L : List (Nat × IT)) (n : Nat) (y : Nat × IT) : ptrs (L.set n y) = (ptrs L).set n (ptrV y.1) := by simp [ptrs, List.map_set]

theorem own_setCells {B : Nat} {e : TypeId} {g n cap m : Nat} : ∀ (vs : List Value) (o : Nat) (w : World) (xs : List Value), m ≤ o → w.ownsRow B e 1 (.slice (some ⟨g, 0, none⟩) n cap) n xs →
    ∃ xs', (w.setCells g o vs).ownsRow B e 1 (.slice (some ⟨g, 0, none⟩) n cap) n xs' ∧ xs'.take m = xs.take m
  | [], o, w, xs, _, h => ⟨xs, h, rfl⟩
  | v :: vs, o, w, xs, hm, h => by
    obtain ⟨xs', h1, h2⟩ := own_setCells (m := m) vs (o + 1) (w.setCell ⟨g, o, none⟩ v) (xs.set o v) (by omega) (h.stored o v).1
    refine ⟨xs', h1, h2.trans ?_⟩
    rw [List.take_set, List.set_eq_of_length_le (by rw [List.length_take]; omega)]
theorem keptS_setCells {S : Nat → Prop} {g : Nat} (hg : S g) {w : World} : ∀ (vs : List Value) (o : Nat) (W : World), KeptS S w W → KeptS S w (W.setCells g o vs)
  | [], _, _, h => h
  | v :: vs, o, _, h => keptS_setCells hg vs (o + 1) _ (keptS_st h hg v)
theorem own_cut {W : World} {B : Nat} {e : TypeId} {g n cap m : Nat} {xs : List Value} (h : W.ownsRow B e 1 (.slice (some ⟨g, 0, none⟩) n cap) n xs) (hm : m ≤ n) : W.ownsRow B e 1 (.slice (some ⟨g, 0, none⟩) m cap) m (xs.take m) := by
  have h0 := h.1
  rcases h.2 with ⟨e, _⟩ | ⟨g', cap', cur, e, hB, h1, h2, h3, h4, h5⟩
  · cases e
  · cases e
    refine ⟨by rw [List.length_take]; omega, .inr ⟨g, cap, cur, rfl, hB, h1, by omega, h3, h4, ?_⟩⟩
    rw [← h5, List.take_take, Nat.mul_one, Nat.mul_one, Nat.min_eq_left hm]
set_option maxRecDepth 100000 in
set_option maxHeartbeats 4000000 in
theorem delete_1 (cv : Value) (pr : (Nat × IT) → Bool) (a : Option Addr) (cap : Nat) (zs : List (Nat × IT)) (w : World) (hl : zs.length ≤ 1000) (h : w.ownsRow 0 73 1 (.slice a zs.length cap) zs.length (ptrs zs))
    (hF : ∀ y ∈ zs, ∀ W', KeptS (fun k => (Value.slice a zs.length cap).ownBlock = some k) w W' → Calls Try.prog 43 #[ptrV y.1, cv] W' fun e w' => e = .returned (.bool (pr y)) ∧ Below W'.heap.size W' w') :
    Calls Try.prog 42 #[.slice a zs.length cap, .func (.func 43) #[] #[cv]] w fun e w' => e = .returned (.slice a (zs.filter (fun y => !pr y)).length cap) ∧ w'.ownsRow 0 73 1 (.slice a (zs.filter (fun y => !pr y)).length cap) (zs.filter (fun y => !pr y)).length (ptrs (zs.filter (fun y => !pr y))) ∧ KeptS (fun k => (Value.slice a zs.length cap).ownBlock = some k) w w' := by
  have hcap : zs.length ≤ cap := own_capR h
  have hrow := rowP_own h rfl
  have HI := Lib.hid (index_d1 cv pr a cap zs w hl hrow (fun y hy W' hb => hF y hy W' (.of_below hb)))
  obtain ⟨n, hn⟩ : ∃ n, zs.length = n := ⟨_, rfl⟩
  rw [hn] at hl hcap h HI ⊢
  rw [hn] at hF
  have HN := Lib.hid hn
  have HO := Lib.hid h
  have HF := Lib.hid hF
  clear hn h hF hrow
  go_enter Try.func42, Try.ntmps42
  go_wp2_with fail
  refine HI.out.mono ?_
  rintro e w1 ⟨rfl, hb⟩
  cases hidx : zs.findIdx? pr with
  | none =>
    have hall : ∀ z ∈ zs, pr z = false := List.findIdx?_eq_none_iff.1 hidx
    have hke : zs.filter (fun y => !pr y) = zs := List.filter_eq_self.2 (fun y hy => by rw [hall y hy]; rfl)
    have HE := Lib.hid hke
    have HB := Lib.hid hb
    have HO1 := Lib.hid (own_later HO.out hb)
    clear hall hb hidx hke HI
    try dsimp only [idxV]
    go_wp2
    go_ret
    exact ⟨by rw [HE.out, HN.out]; rfl, by rw [HE.out, HN.out]; exact HO1.out, .of_below HB.out⟩
  | some k =>
    rw [List.findIdx?_eq_some_iff_getElem] at hidx
    obtain ⟨hkl, hpk, hbef⟩ := hidx
    have hz : zs[k]? = some zs[k] := List.getElem?_eq_getElem hkl
    have hall : ∀ z ∈ zs.take k, pr z = false := by
      intro z hz
      obtain ⟨j, hj, rfl⟩ := List.mem_take_iff_getElem.1 hz
      have := hbef j (by omega)
      simpa using this
    obtain ⟨d0, d1⟩ := DelP.start hall hz hpk
    have hkn : k < n := by have := HN.out; omega
    obtain ⟨g, rfl⟩ : ∃ g, a = some ⟨g, 0, none⟩ := by
      rcases HO.out.2 with ⟨_, h0⟩ | ⟨g, c, cur, e, _⟩
      · omega
      · cases e; exact ⟨g, rfl⟩
    have D0 := Lib.hid d0
    have D1 := Lib.hid d1
    have HO1 := Lib.hid (own_later HO.out hb)
    have HK1 := Lib.hid (show KeptS (fun k => (Value.slice (some (⟨g, 0, none⟩ : Addr)) n cap).ownBlock = some k) w w1 from .of_below hb)
    have hk1 : ((k : Int) == -1) = false := by rw [beq_eq_false_iff_ne]; omega
    have hwk : IntKind.i64.wrap ((k : Int) + 1) = (k : Int) + 1 := IntWalk.i64_in _ (by omega)
    clear d0 d1 hb hall hz hpk hbef hkl HI
    try dsimp only [idxV]
    go_wp2_with fail
    go_loopw [5, 6, 7] (fun s5 s6 _ wr => ∃ (j : Nat) (D : List (Nat × IT)), k < j ∧ j ≤ n ∧ s6 = .int .i64 j ∧ s5 = .int .i64 (((zs.take j).filter (fun y => !pr y)).length : Nat) ∧ Hid (DelP pr zs j D) ∧ Hid (wr.ownsRow 0 73 1 (.slice (some ⟨g, 0, none⟩) n cap) n (ptrs D)) ∧ Hid (KeptS (fun k => (Value.slice (some (⟨g, 0, none⟩ : Addr)) n cap).ownBlock = some k) w wr)) (fun _ s6 _ _ => n - (intOf s6).toNat)
    case atStart => exact ⟨k + 1, zs, by omega, by omega, rfl, by rw [D1.out], D0, HO1, HK1⟩
    case round =>
      obtain ⟨j, D, hj0, hj, rfl, rfl, HD, HOW, HA⟩ := hrel
      have hcnt := HD.out.cnt
      obtain ⟨m, hm⟩ : ∃ m, ((zs.take j).filter (fun y => !pr y)).length = m := ⟨_, rfl⟩
      rw [hm] at hcnt ⊢
      have HM := Lib.hid hm
      clear hm
      have hj1 : (0 : Int) ≤ (j : Int) := by omega
      have hm1 : (0 : Int) ≤ (m : Int) := by omega
      by_cases hlt : j < n
      · have hlt2 : (j : Int) < (n : Int) := by omega
        have hmn : (m : Int) < (n : Int) := by omega
        obtain ⟨z, hz⟩ : ∃ z, zs[j]? = some z := ⟨_, List.getElem?_eq_getElem (by rw [HN.out]; exact hlt)⟩
        have hDz : D[j]? = some z := (HD.out.hi j (Nat.le_refl _)).trans hz
        have c0 := HOW.out.cells (g := g) rfl j (ptrV z.1) (by rw [List.getElem?_map, hDz]; rfl)
        rw [hadd] at c0
        have HZ := Lib.hid hz
        have zc := blk_lt c0
        have hcall := HF.out z (List.mem_of_getElem? hz) wr HA.out
        clear hz hDz
        go_wp2_with fail
        refine hcall.mono ?_
        rintro e W3 ⟨rfl, hb3⟩
        have hown := own_later HOW.out hb3
        have hA3 : KeptS (fun k => (Value.slice (some (⟨g, 0, none⟩ : Addr)) n cap).ownBlock = some k) w W3 := HA.out.below hb3
        have hu0 := hown.frozenAt m
        have hmD : m < (ptrs D).length := by rw [List.length_map, HD.out.len, HN.out]; omega
        have d0 := hown.cells (g := g) rfl m _ (List.getElem?_eq_getElem hmD)
        rw [hadd] at d0
        generalize (ptrs D)[m] = o2 at d0
        have zd := blk_lt d0
        have HO3 := Lib.hid hown
        have HA3 := Lib.hid hA3
        clear hb3 hown hA3 hmD c0 zc hcall
        cases he : pr z
        · obtain ⟨k1, k2⟩ := HD.out.keep HZ.out he
          rw [HM.out] at k1 k2
          have K1 := Lib.hid k1
          have K2 := Lib.hid k2
          have HO4 : Hid ((W3.setCell ⟨g, m, none⟩ (ptrV z.1)).ownsRow 0 73 1 (.slice (some ⟨g, 0, none⟩) n cap) n (ptrs (D.set m z))) := Lib.hid (by
            have := (HO3.out.stored m (ptrV z.1)).1
            rw [ptrs_set]; exact this)
          have HA4 := Lib.hid (keptS_st HA3.out (o := m) (show (fun k => (Value.slice (some (⟨g, 0, none⟩ : Addr)) n cap).ownBlock = some k) g from rfl) (ptrV z.1))
          clear he k1 k2
          go_wp2_with fail
          go_roundw
          case rel => exact ⟨j + 1, _, by omega, by omega, by go_num, by rw [K2.out]; go_num, K1, HO4, HA4⟩
          case measure => simp [intOf]; omega
        · obtain ⟨k1, k2⟩ := HD.out.skip HZ.out he
          rw [HM.out] at k2
          have K1 := Lib.hid k1
          have K2 := Lib.hid k2
          clear he k1 k2
          go_wp2_with fail
          go_roundw
          case rel => exact ⟨j + 1, D, by omega, by omega, by go_num, by rw [K2.out], K1, HO3, HA3⟩
          case measure => simp [intOf]; omega
      · obtain rfl : j = n := by omega
        have hge : ¬ (j : Int) < (j : Int) := by omega
        have hmn : (m : Int) ≤ (j : Int) := by omega
        have hmc : (m : Int) ≤ (cap : Int) := by omega
        have hKL : (zs.take j).filter (fun y => !pr y) = zs.filter (fun y => !pr y) := by rw [← HN.out, List.take_length]
        have hown := HOW.out
        have hdl : (ptrs D).length = j * 1 := hown.1
        have hce : ∀ t, t < (j - m) * 1 → (wr.cell? ⟨g, m * 1 + t, none⟩).isSome = true := fun t ht => by
          have := hown.cells (g := g) rfl (m * 1 + t) _ (List.getElem?_eq_getElem (by rw [hdl]; omega))
          rw [hadd] at this
          rw [this]; rfl
        have hcl : ∀ ty, (Builtin.clear_ #[70] ty #[.slice (some ⟨g, m, none⟩) (j - m) (cap - m)]).run Try.prog wr = .ok (.tuple #[]) (wr.setCells g m (Builtin.zeroCells #[.pointer none] (j - m)).toList) :=
          fun ty => by
            have := run_clear_k wr 70 73 ty _ 1 Try.underlying70 Try.zeroValue73 rfl (by decide) (by intro v hv; simp [Value.cells] at hv; rcases hv with rfl <;> rfl) g (m * 1) (j - m) (cap - m) (by omega) hce (fun t _ => hown.frozenAt _)
            rw [Nat.mul_one] at this
            exact this
        obtain ⟨xs', hx1, hx2⟩ := own_setCells (m := m) (Builtin.zeroCells #[.pointer none] (j - m)).toList m wr _ (Nat.le_refl _) hown
        have HRW := Lib.hid (own_cut hx1 (show m ≤ j by omega))
        have HKK := Lib.hid (keptS_setCells (S := fun k => (Value.slice (some (⟨g, 0, none⟩ : Addr)) j cap).ownBlock = some k) rfl (Builtin.zeroCells #[.pointer none] (j - m)).toList m wr HA.out)
        have HLEN := Lib.hid (show (zs.filter (fun y => !pr y)).length = m from by rw [← hKL]; exact HM.out)
        have HPT : Hid (xs'.take m = ptrs (zs.filter (fun y => !pr y))) := Lib.hid (by
          have hd := HD.out
          rw [← HN.out] at hd
          rw [hx2, ptrs, ← List.map_take, ← HLEN.out, hd.done])
        rw [HPT.out] at HRW
        clear hKL hce hdl hown hx1 hx2 HPT
        go_wp2
        go_ret
        exact ⟨by rw [HLEN.out]; rfl, by rw [HLEN.out]; exact HRW.out, HKK.out⟩
end Go.Proofs.Ytbmpgafndpdnbaa
