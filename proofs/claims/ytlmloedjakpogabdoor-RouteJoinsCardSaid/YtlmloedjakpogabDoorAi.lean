/- Paths: slices.Grow of nothing, slices.Concat of two rows of cells. -/
import Derived.Test.YtlmloedjakpogabDoorAh
import Derived.Lib.AppendZerosOnto
namespace Go.Proofs.YtlmloedjakpogabDoor
open Go.RowKit Go.Lib

theorem rowC_flat {W : World} {g : Nat} : ∀ (zs : List IC) (o : Nat), (∀ i z, zs[i]? = some z → W.cell? ⟨g, o + i * 2, none⟩ = some (.int .i64 z.1) ∧ W.cell? ⟨g, o + i * 2 + 1, none⟩ = some (.int .i64 z.2)) → ∀ j u, (flatC zs)[j]? = some u → W.cell? ⟨g, o + j, none⟩ = some u
  | [], o, _, j, u, h => by simp [flatC] at h
  | z :: zs, o, hc, 0, u, h => by
    have e : flatC (z :: zs) = .int .i64 z.1 :: .int .i64 z.2 :: flatC zs := rfl
    rw [e] at h
    simp at h
    subst h
    exact (hc 0 z rfl).1
  | z :: zs, o, hc, 1, u, h => by
    have e : flatC (z :: zs) = .int .i64 z.1 :: .int .i64 z.2 :: flatC zs := rfl
    rw [e] at h
    simp at h
    subst h
    exact (hc 0 z rfl).2
  | z :: zs, o, hc, j + 2, u, h => by
    have e : flatC (z :: zs) = .int .i64 z.1 :: .int .i64 z.2 :: flatC zs := rfl
    rw [e] at h
    have := rowC_flat zs (o + 2) (fun i y hy => by
      have := hc (i + 1) y (by simpa using hy)
      rw [show o + (i + 1) * 2 = o + 2 + i * 2 by omega] at this
      exact this) j u (by simpa using h)
    rw [show o + (j + 2) = o + 2 + j by omega]
    exact this
theorem RowC.flat {W : World} {g o : Nat} {zs : List IC} (h : RowC W (some ⟨g, o, none⟩) zs) : ∀ j u, (flatC zs)[j]? = some u → W.cell? ((⟨g, o, none⟩ : Addr).add j) = some u := by
  intro j u hj
  rw [addr_add]
  rcases h with rfl | ⟨b, o', e, hc⟩
  · simp [flatC] at hj
  · cases e
    exact rowC_flat zs o hc j u hj
theorem flatC_one (zs : List IC) : ∀ u ∈ flatC zs, u.oneCell' = true := by
  intro u hu
  simp only [flatC, List.mem_flatMap] at hu
  obtain ⟨z, _, hz⟩ := hu
  simp at hz
  rcases hz with rfl | rfl <;> rfl

set_option maxRecDepth 100000 in
set_option maxHeartbeats 2000000 in
theorem grow_nil (n : Nat) (h0 : 0 < n) (hn : n ≤ 2097152) (w : World) :
    Calls Tryd.prog 41 #[.slice none 0 0, .int .i64 n] w fun e w' => ∃ v, e = .returned v ∧ w'.ownsRow w.heap.size 37 2 v 0 [] ∧ Below w.heap.size w w' := by
  obtain ⟨i0, hi, hz0, hz1, hz2⟩ := info_parts Tryd.infoCell
  have h1 : ¬ ((n : Int) < 0) := by omega
  have h2 : (0 : Int) < (n : Int) := by omega
  have h3 : IntKind.i64.wrap (n : Int) = n := IntWalk.i64_in _ (by omega)
  have hold : (Builtin.firstCells i0.size 0 (.slice none 0 0)).run Tryd.prog w.drew = .ok ([] : List Value).toArray w.drew := run_firstCells_none w.drew i0.size 0 0 0
  have hrz := fun ty => Lib.run_append_grow_zeros (P := Tryd.prog) w 27 3 ty 37 i0 (.agg #[.int .i64 0, .int .i64 0]) .i64 .i64 Tryd.underlying27 Tryd.underlying3 hi hz0 none 0 0 [] hold n h0 (by omega) (by omega) (by omega) (by rw [hz2]; omega) (growslice_fits (by omega) (by rw [hz2]; omega))
  rw [Nat.zero_add] at hrz
  have hGn : n ≤ grownCap w n 0 37 := grownCap_ge w _ _ _
  have hGm := grownCap_le_maxLen w n 0 37 (by unfold maxLen; omega)
  generalize grownCap w n 0 37 = G at *
  obtain ⟨w1, hw1⟩ : ∃ w1, w.drew.alloc (.cells (([] : List Value).toArray ++ Builtin.zeroCells (Value.agg #[.int .i64 0, .int .i64 0]).cells n ++ Builtin.zeroCells (Value.agg #[.int .i64 0, .int .i64 0]).cells (G - n)) 37) = w1 := ⟨_, rfl⟩
  rw [hw1] at hrz
  have hown : w1.ownsRow w.heap.size 37 2 (.slice (some ⟨w.heap.size, 0, none⟩) 0 G) 0 [] := by
    refine ⟨rfl, .inr ⟨w.heap.size, G, _, rfl, Nat.le_refl _, by rw [← hw1]; exact heap_alloc_new _ _, Nat.zero_le _, hGm, ?_, by simp⟩⟩
    simp [size_zeroCells, Value.cells]
    omega
  have hb : Below w.heap.size w w1 := by rw [← hw1]; exact bl_al (bl_dr (bl0 w)) _
  have hG0 : (0 : Int) ≤ (G : Int) := by omega
  have HO := Lib.hid hown
  have HB := Lib.hid hb
  clear hown hb hw1 hold hGn hGm
  go_enter Tryd.func41, Tryd.ntmps41
  go_wp2_with (at_builtin; refine Lib.wpList_append_run _ rfl _ _ _ _ rfl _ _ rfl rfl _ _ (hrz _) ?_)
  all_goals
    go_ret
    exact ⟨_, rfl, HO.out, HB.out⟩

def catK (xs ys : List IC) (k : Nat) : List IC := if k = 0 then [] else if k = 1 then xs else xs ++ ys
def catS (xs ys : List IC) (k : Nat) : List IC := if k = 0 then xs else ys
def catA (a b : Addr) (k : Nat) : Addr := if k = 0 then a else b
def catC (a b : Nat) (k : Nat) : Nat := if k = 0 then a else b
theorem catK_next (xs ys : List IC) {k : Nat} (hk : k < 2) : catK xs ys (k + 1) = catK xs ys k ++ catS xs ys k := by
  obtain rfl | rfl : k = 0 ∨ k = 1 := by omega
  · simp [catK, catS]
  · simp [catK, catS]
set_option maxRecDepth 100000 in
set_option maxHeartbeats 4000000 in
theorem concat_two (sb ga oa gb ob ca cb : Nat) (xs ys : List IC) (w : World) (h0 : w.cell? ⟨sb, 0, none⟩ = some (.slice (some ⟨ga, oa, none⟩) xs.length ca)) (h1 : w.cell? ⟨sb, 1, none⟩ = some (.slice (some ⟨gb, ob, none⟩) ys.length cb)) (hx : RowC w (some ⟨ga, oa, none⟩) xs) (hy : RowC w (some ⟨gb, ob, none⟩) ys) (hl : xs.length ≤ 1048576) (hl2 : ys.length ≤ 1048576) (hp : 0 < xs.length) :
    Calls Tryd.prog 34 #[.slice (some ⟨sb, 0, none⟩) 2 2] w fun e w' => ∃ v, e = .returned v ∧ w'.ownsRow w.heap.size 37 2 v (xs ++ ys).length (flatC (xs ++ ys)) ∧ Below w.heap.size w w' := by
  obtain ⟨i0, hi, hz0, hz1, hz2⟩ := info_parts Tryd.infoCell
  have hA := bl0 w
  have hS : ∀ k, k < 2 → ∀ W, Below w.heap.size w W → W.cell? ⟨sb, k, none⟩ = some (.slice (some (catA ⟨ga, oa, none⟩ ⟨gb, ob, none⟩ k)) (catS xs ys k).length (catC ca cb k)) ∧ (∀ j u, (flatC (catS xs ys k))[j]? = some u → W.cell? ((catA ⟨ga, oa, none⟩ ⟨gb, ob, none⟩ k).add j) = some u) := by
    intro k hk W hb
    obtain rfl | rfl : k = 0 ∨ k = 1 := by omega
    · exact ⟨cell_later hb h0, (hx.below hb).flat⟩
    · exact ⟨cell_later hb h1, (hy.below hb).flat⟩
  have hSl : ∀ k, (catS xs ys k).length ≤ 1048576 := by intro k; unfold catS; split <;> omega
  have hKl : ∀ k, (catK xs ys k).length ≤ 2097152 := by intro k; unfold catK; split
                                                        · exact Nat.zero_le _
                                                        · split
                                                          · omega
                                                          · rw [List.length_append]; omega
  have HS := Lib.hid hS; have HL := Lib.hid hSl; have HK := Lib.hid hKl
  clear hS hSl hKl h0 h1 hx hy
  go_enter Tryd.func34, Tryd.ntmps34
  go_wp2
  go_loopw [3, 5, 11] (fun n _ i wr => ∃ k : Nat, k ≤ 2 ∧ i = .int .i64 k ∧ n = .int .i64 ((catK xs ys k).length : Int) ∧ Below w.heap.size w wr) (fun _ _ i _ => 2 - (intOf i).toNat)
  case atStart => exact ⟨0, by omega, rfl, rfl, hA⟩
  case round =>
    obtain ⟨k, hk, rfl, rfl, hB⟩ := hrel
    by_cases hlt : k < 2
    · have hlt2 : (k : Int) < 2 := by omega
      have hk0 : (0 : Int) ≤ (k : Int) := by omega
      obtain ⟨q, _⟩ := HS.out k hlt wr hB
      have l1 := HL.out k
      have l2 := HK.out k
      have hnx : ((catK xs ys k).length : Int) + ((catS xs ys k).length : Int) = ((catK xs ys (k + 1)).length : Int) := by rw [catK_next xs ys hlt, List.length_append]; omega
      have e1 : IntKind.i64.wrap (((catK xs ys k).length : Int) + ((catS xs ys k).length : Int)) = ((catK xs ys k).length : Int) + ((catS xs ys k).length : Int) := IntWalk.i64_in _ (by omega)
      have HN := Lib.hid hnx
      clear hnx
      generalize (catS xs ys k).length = ls at *
      generalize (catK xs ys k).length = lk at *
      have hpos : ¬ ((lk : Int) + (ls : Int) < 0) := by omega
      go_wp2
      go_roundw
      case rel => exact ⟨k + 1, by omega, by go_num, by rw [← HN.out], hB⟩
      case measure => simp [intOf]; omega
    · obtain rfl : k = 2 := by omega
      have hc2 : catK xs ys 2 = xs ++ ys := rfl
      rw [hc2]
      have hn := HK.out 2
      rw [hc2] at hn
      have hn0 : 0 < (xs ++ ys).length := by rw [List.length_append]; omega
      obtain ⟨N, hN⟩ : ∃ N, (xs ++ ys).length = N := ⟨_, rfl⟩
      rw [hN] at hn hn0 ⊢
      have HNN := Lib.hid hN
      clear hN hA
      go_wp2_with fail
      refine (grow_nil N hn0 hn _).mono ?_
      rintro e w1 ⟨v, rfl, hown, hb⟩
      have hown0 : w1.ownsRow w.heap.size 37 2 v (catK xs ys 0).length (flatC (catK xs ys 0)) := own_base hown hB.size
      have hB1 := bl_tr hB hb
      clear hown hb
      go_wp2
      go_loopw [6, 8, 27] (fun v _ i wr => ∃ k : Nat, k ≤ 2 ∧ i = .int .i64 k ∧ wr.ownsRow w.heap.size 37 2 v (catK xs ys k).length (flatC (catK xs ys k)) ∧ Below w.heap.size w wr) (fun _ _ i _ => 2 - (intOf i).toNat)
      case atStart => exact ⟨0, by omega, rfl, hown0, hB1⟩
      case round =>
        clear hown0 hB1 hB
        obtain ⟨k, hk, rfl, hown, hB⟩ := hrel
        by_cases hlt : k < 2
        · have hlt2 : (k : Int) < 2 := by omega
          have hk0 : (0 : Int) ≤ (k : Int) := by omega
          obtain ⟨q, hfl⟩ := HS.out k hlt wr hB
          have l1 := HL.out k
          have l2 := HK.out k
          have hnx := catK_next xs ys hlt
          have hnl : (catK xs ys k).length + (catS xs ys k).length = (catK xs ys (k + 1)).length := by rw [hnx, List.length_append]
          have hfx : flatC (catK xs ys k) ++ flatC (catS xs ys k) = flatC (catK xs ys (k + 1)) := by rw [hnx, flatC, flatC, flatC, List.flatMap_append]
          have hone := flatC_one (catS xs ys k)
          have hlen := flatC_len (catS xs ys k)
          have HX := Lib.hid hfx; have HN := Lib.hid hnl
          clear hnx hfx hnl
          generalize catA ⟨ga, oa, none⟩ ⟨gb, ob, none⟩ k = ad at *
          generalize catC ca cb k = cc at *
          generalize flatC (catS xs ys k) = news at *
          generalize (catS xs ys k).length = ls at *
          have HF := Lib.hid hfl; have HO := Lib.hid hone
          clear hfl hone
          go_wp2_with (at_builtin; refine wpList_append_own _ rfl _ _ 27 rfl w.heap.size 37 i0 (.agg #[.int .i64 0, .int .i64 0]) 2 16 Tryd.underlying27 hi hz0 hz1 hz2 rfl (by decide) _ _ _ rfl hown ad ls cc news rfl hlen HF.out HO.out ?c3 ?c4 ?c5 ?_)
          case c3 => unfold maxLen; omega
          case c4 => omega
          case c5 => exact hB.size
          intro v' w5 hown' hgrow _
          have hB3 : Below w.heap.size w w5 := hB.grown hgrow hB.size (fun j hj => by have := (hown.lt j hj).1; omega)
          rw [HX.out, HN.out] at hown'
          clear hgrow hown q HF HO
          go_wp2
          go_roundw
          case rel => exact ⟨k + 1, by omega, by go_num, hown', hB3⟩
          case measure => simp [intOf]; omega
        · obtain rfl : k = 2 := by omega
          rw [hc2] at hown
          go_wp2
          go_ret
          exact ⟨_, rfl, by rw [← HNN.out]; exact hown, hB⟩
end Go.Proofs.YtlmloedjakpogabDoor
