/- Parse at every text; the chapter's examples. -/
import Derived.Test.YthnpoeobieninaaDoorVm
namespace Go.Proofs.YthnpoeobieninaaDoor
open Go.RowKit Go.Shelf

/-- What a text is parsed as; the row that is wrong. -/
def parF (l : List UInt8) : PS × Int :=
  if 131072 < l.length then (⟨0, 0, [], 12⟩, 0) else if l = [] then (⟨0, 0, [], 11⟩, 1) else
  if (runL (linesF l)).e ≠ 0 then (⟨0, 0, [], (runL (linesF l)).e⟩, (runL (linesF l)).H) else (runL (linesF l), 0)

set_option maxHeartbeats 1600000 in
theorem parse_long (s : ByteArray) (w : World) (h1 : 131072 < s.size) :
    Calls Tryd.prog 20 #[.string s] w fun e w' => Below w.heap.size w w' ∧ e = .returned (.tuple #[.agg #[.int .i64 0, .int .i64 0, .slice none 0 0], .int .i64 0, .int .i64 12]) := by
  have g1 : (131072 : Int) < (s.size : Int) := by omega
  go_enter Tryd.func20, Tryd.ntmps20
  go_wp2
  go_step3
  go_wp2
  rw [Exit.noGoto_ret]
  refine bodyPost_ret (v := .tuple #[.agg #[.int .i64 0, .int .i64 0, .slice none 0 0], .int .i64 0, .int .i64 12]) (by simp [results, Tryd.results20, go_sem]) rfl ⟨?_, rfl⟩
  exact bl_al (bl0 _) _
set_option maxHeartbeats 1600000 in
theorem parse_none (s : ByteArray) (w : World) (h1 : s.size = 0) :
    Calls Tryd.prog 20 #[.string s] w fun e w' => Below w.heap.size w w' ∧ e = .returned (.tuple #[.agg #[.int .i64 0, .int .i64 0, .slice none 0 0], .int .i64 1, .int .i64 11]) := by
  have g1 : (s.size : Int) ≤ 131072 := by omega
  have g2 : (s.toList == []) = true := by
    have hn : s.data.toList = [] := List.eq_nil_of_length_eq_zero (by rw [Array.length_toList]; exact h1)
    rw [ByteArray.toList_eq, hn]
    rfl
  go_enter Tryd.func20, Tryd.ntmps20
  go_wp2
  go_step3
  go_wp2
  rw [Exit.noGoto_ret]
  refine bodyPost_ret (v := .tuple #[.agg #[.int .i64 0, .int .i64 0, .slice none 0 0], .int .i64 1, .int .i64 11]) (by simp [results, Tryd.results20, go_sem]) rfl ⟨?_, rfl⟩
  exact bl_al (bl0 _) _

theorem parse_any (s : ByteArray) (w : World) (hS : Sits w) :
    Calls Tryd.prog 20 #[.string s] w fun e w' => Below w.heap.size w w' ∧ ∃ v, e = .returned (.tuple #[.agg #[.int .i64 (parF s.data.toList).1.W, .int .i64 (parF s.data.toList).1.H, v], .int .i64 (parF s.data.toList).2, .int .i64 (parF s.data.toList).1.e]) ∧
      w'.ownsRow w.heap.size 38 1 v (parF s.data.toList).1.cs.length (cellsH (parF s.data.toList).1.cs) := by
  have hsz : s.data.toList.length = s.size := by rw [Array.length_toList]; rfl
  by_cases h1 : 131072 < s.size
  · have hp : parF s.data.toList = (⟨0, 0, [], 12⟩, 0) := by unfold parF; rw [if_pos (by omega)]
    rw [hp]
    refine (parse_long s w h1).mono ?_
    rintro e w' ⟨hb, rfl⟩
    exact ⟨hb, _, rfl, World.ownsRow_nil _ _ _ _⟩
  · by_cases h2 : s.size = 0
    · have hp : parF s.data.toList = (⟨0, 0, [], 11⟩, 1) := by unfold parF; rw [if_neg (by omega), if_pos (List.eq_nil_of_length_eq_zero (by omega))]
      rw [hp]
      refine (parse_none s w h2).mono ?_
      rintro e w' ⟨hb, rfl⟩
      exact ⟨hb, _, rfl, World.ownsRow_nil _ _ _ _⟩
    · have hne : s.data.toList ≠ [] := by intro h; apply h2; rw [← hsz, h]; rfl
      refine (parse_rows s w hS (by omega) h2).mono ?_
      rintro e w' ⟨hb, (⟨h3, v, rfl, hown⟩ | ⟨h3, rfl⟩)⟩
      · have hp : parF s.data.toList = (runL (linesF s.data.toList), 0) := by unfold parF; rw [if_neg (by omega), if_neg hne, if_neg (fun e => e h3)]
        rw [hp]
        exact ⟨hb, v, by rw [h3], hown⟩
      · have hp : parF s.data.toList = (⟨0, 0, [], (runL (linesF s.data.toList)).e⟩, (runL (linesF s.data.toList)).H) := by unfold parF; rw [if_neg (by omega), if_neg hne, if_pos h3]
        rw [hp]
        exact ⟨hb, _, rfl, World.ownsRow_nil _ _ _ _⟩

theorem parF_ex : parF [49, 32, 48, 10, 55, 32, 54, 53, 53, 51, 53, 10] = (⟨2, 2, [1, 0, 7, 65535], 0⟩, 0) := by kernel_rfl
theorem turn_ex : turnF 2 [1, 0, 7, 65535] [1, 3, 7, 65535] = [(1, 0)] := by kernel_rfl
theorem row_of {w : World} {B : Nat} {a : Option Addr} {cap : Nat} {zs : List Int} (h : w.ownsRow B 38 1 (.slice a zs.length cap) zs.length (cellsH zs)) : RowH w a zs := by
  obtain ⟨a', c, e, h⟩ := rowH_of_own h
  cases e
  exact h
theorem own_block {w : World} {B n : Nat} {v : Value} {e : TypeId} {size : Nat} {xs : List Value} (h : w.ownsRow B e size v n xs) (hn : n ≠ 0) : ∃ g cap, v = .slice (some ⟨g, 0, none⟩) n cap := by
  rcases h.2 with ⟨_, h0⟩ | ⟨g, cap, cur, h1, _⟩
  · exact absurd h0 hn
  · exact ⟨g, cap, h1⟩

set_option maxRecDepth 100000 in
set_option maxHeartbeats 4000000 in
theorem awake_any (w : World) (hS : Sits w) :
    Calls Tryd.prog 9 #[] w fun e w' => e = .returned (.bool true) ∧ Below w.heap.size w w' := by
  have hA := bl0 w
  go_enter Tryd.func9, Tryd.ntmps9
  go_wp2_with fail
  refine (parse_any ⟨#[49, 32, 48, 10, 55, 32, 54, 53, 53, 51, 53, 10]⟩ w hS).mono ?_
  rintro e w1 ⟨hb, v, rfl, hown⟩
  have hp : parF (⟨#[49, 32, 48, 10, 55, 32, 54, 53, 53, 51, 53, 10]⟩ : ByteArray).data.toList = (⟨2, 2, [1, 0, 7, 65535], 0⟩, 0) := parF_ex
  rw [hp] at hown ⊢
  simp only at hown ⊢
  obtain ⟨g0, cap0, rfl⟩ := own_block hown (by decide)
  have hr1 : RowH w1 (some ⟨g0, 0, none⟩) [1, 0, 7, 65535] := by
    obtain ⟨a, c, e, h⟩ := rowH_of_own hown
    cases e
    exact h
  replace hA := hb
  have hz1 := hb.size
  clear hb hown hp
  go_wp2_with fail
  have hb2 : Below w1.heap.size w1 (w1.alloc (.cells #[.int .i64 2, .int .i64 2, .slice (some ⟨g0, 0, none⟩) 4 cap0] 26)) := bl_al (bl0 _) _
  have k0 : (w1.alloc (.cells #[.int .i64 2, .int .i64 2, .slice (some ⟨g0, 0, none⟩) 4 cap0] 26)).cell? ⟨w1.heap.size, 0, none⟩ = some (.int .i64 2) := by simp [go_sem]
  have k1 : (w1.alloc (.cells #[.int .i64 2, .int .i64 2, .slice (some ⟨g0, 0, none⟩) 4 cap0] 26)).cell? ⟨w1.heap.size, 1, none⟩ = some (.int .i64 2) := by simp [go_sem]
  have k2 : (w1.alloc (.cells #[.int .i64 2, .int .i64 2, .slice (some ⟨g0, 0, none⟩) 4 cap0] 26)).cell? ⟨w1.heap.size, 2, none⟩ = some (.slice (some ⟨g0, 0, none⟩) 4 cap0) := by simp [go_sem]
  generalize hw2 : w1.alloc (.cells #[.int .i64 2, .int .i64 2, .slice (some ⟨g0, 0, none⟩) 4 cap0] 26) = w2 at *
  replace hA := bl_tr hA hb2
  have hr2 := hr1.below hb2
  have hz2 : w1.heap.size < w2.heap.size := blk_lt k0
  clear hw2 hr1 hb2
  refine (new_yes 2 2 (some ⟨g0, 0, none⟩) cap0 [1, 0, 7, 65535] w2 hr2 rfl).mono ?_
  rintro e w3 ⟨g, h, cap, rfl, hg, hb3⟩
  replace k0 := cell_later hb3 k0
  replace k1 := cell_later hb3 k1
  replace k2 := cell_later hb3 k2
  replace hA := bl_tr hA hb3
  have hX := hb3
  clear hb3
  go_wp2_with fail
  refine (size_any _ g h cap 2 2 _ 0 w3 hg).mono ?_
  rintro e w4 ⟨rfl, hb4⟩
  replace k0 := cell_later hb4 k0
  replace k1 := cell_later hb4 k1
  replace k2 := cell_later hb4 k2
  replace hA := bl_tr hA hb4
  replace hX := bl_tr hX hb4
  replace hg := hg.below hb4
  clear hb4
  go_wp2_with fail
  refine (edit_yes _ g h cap 2 2 1 0 3 [1, 0, 7, 65535] 0 w4 hg (by omega) (by omega) rfl 1 rfl (by decide) ⟨by decide, by decide⟩ (by omega) (by omega)).mono ?_
  rintro e w5 ⟨rfl, hg5, hk5⟩
  have hzs : ([1, 0, 7, 65535] : List Int).set 1 3 = [1, 3, 7, 65535] := rfl
  rw [hzs] at hg5
  have hlg := hg.1
  have hlh := hg.lt.2.1
  have hB5 : Below w2.heap.size w4 w5 := hk5.below hX.size hlg hlh
  replace k0 := cell_low hB5 hz2 k0
  replace k1 := cell_low hB5 hz2 k1
  replace k2 := cell_low hB5 hz2 k2
  have hr5 := hr2.below (hX.trans hB5)
  have hA5 : Below w.heap.size w w5 := hA.trans (hB5.mono (by omega))
  clear hB5 hX hk5 hr2 hg hlh hA hzs
  show _
  simp only [List.getElem_cons_succ, List.getElem_cons_zero]
  go_wp2
  have hB := bl_dr (bl0 w5)
  go_region_held3 (fun W => W.cell? ⟨w1.heap.size, 0, none⟩ = some (.int .i64 2) ∧ W.cell? ⟨w1.heap.size, 1, none⟩ = some (.int .i64 2) ∧ W.cell? ⟨w1.heap.size, 2, none⟩ = some (.slice (some ⟨g0, 0, none⟩) 4 cap0))
    (exact ⟨cell_later hB k0, cell_later hB k1, cell_later hB k2⟩)
    (first
      | (go_at_call 16; refine (field_any _ g h cap 2 2 [1, 3, 7, 65535] 1 _ (hg5.below hB) (by decide) (by decide)).mono ?_; rintro e W2 ⟨h2, cap2, rfl, hown, hb⟩; replace hB := bl_tr hB hb; clear hb)
      | (go_at_call 24; refine (turned_yes 2 2 (some ⟨g0, 0, none⟩) (some ⟨h2, 0, none⟩) cap0 cap2 [1, 0, 7, 65535] [1, 3, 7, 65535] _ (hr5.below hB) (row_of hown) rfl rfl).mono ?_; rintro e W3 ⟨v3, cap3, rfl, hrow, hb⟩; rw [turn_ex] at hrow; replace hB := bl_tr hB hb; clear hb))
  all_goals
    rw [turn_ex]
    obtain ⟨gb, go, rfl, q0, q1⟩ := hrow.cell (k := 0) (by decide)
    simp only [Nat.zero_mul, Nat.add_zero, List.getElem_cons_zero] at q0 q1
    have hg6 := hg5.below hB
    have HA := Lib.hid (bl_tr hA5 hB)
    clear hB hA5 hg5 hr5 hrow hown k0 k1 k2
    go_wp2_with (go_at_call 15; refine (edits_any _ g h cap 2 2 _ 1 _ hg6).mono ?_; rintro e w' ⟨rfl, rfl⟩)
    go_ret
    exact ⟨rfl, HA.out⟩
end Go.Proofs.YthnpoeobieninaaDoor
