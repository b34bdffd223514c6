/- Lists of cells: the neighbours, by geom and by the reference; and that two equal lists are told equal. -/
import Derived.Test.YtdacoeehhpnkbaaDoorRc
import Derived.Test.YtdacoeehhpnkbaaDoorLwalk
namespace Go.Proofs.YtdacoeehhpnkbaaDoor
open Go.RowKit

def flatP : List (Int × Int) → List Value
  | [] => []
  | p :: ps => .int .i64 p.1 :: .int .i64 p.2 :: flatP ps
theorem flatP_len : ∀ ps : List (Int × Int), (flatP ps).length = ps.length * 2
  | [] => rfl
  | p :: ps => by simp [flatP, flatP_len ps]; omega
theorem flatP_append : ∀ ps qs : List (Int × Int), flatP (ps ++ qs) = flatP ps ++ flatP qs
  | [], qs => rfl
  | p :: ps, qs => by simp [flatP, flatP_append ps qs]
theorem flatP_get : ∀ (ps : List (Int × Int)) (j : Nat), j < ps.length → ∃ x y : Int, (flatP ps)[j * 2]? = some (.int .i64 x) ∧ (flatP ps)[j * 2 + 1]? = some (.int .i64 y)
  | [], j, h => by simp at h
  | p :: ps, 0, _ => ⟨p.1, p.2, rfl, rfl⟩
  | p :: ps, j + 1, h => by
    obtain ⟨x, y, h0, h1⟩ := flatP_get ps j (by simpa using h)
    refine ⟨x, y, ?_, ?_⟩
    · rw [show (j + 1) * 2 = j * 2 + 1 + 1 from by omega]; simpa [flatP] using h0
    · rw [show (j + 1) * 2 + 1 = j * 2 + 1 + 1 + 1 from by omega]; simpa [flatP] using h1

/-- What a slice that owns a list of cells gives a walk. -/
theorem own_shape {w : World} {B : Nat} {v : Value} {ps : List (Int × Int)} (h : w.ownsRow B 25 2 v ps.length (flatP ps)) :
    ∃ (a : Option Addr) (cap : Nat), v = .slice a ps.length cap ∧ ps.length ≤ 9223372036854775807 ∧ (ps = [] ∨ ∃ g, a = some ⟨g, 0, none⟩ ∧ ∀ j u, (flatP ps)[j]? = some u → w.cell? ⟨g, j, none⟩ = some u) := by
  have hc := h
  rcases h.2 with ⟨rfl, h0⟩ | ⟨g, cap, cur, rfl, _, _, hcap, hm, _⟩
  · refine ⟨none, 0, by rw [h0], by omega, .inl (List.length_eq_zero_iff.1 h0)⟩
  · unfold maxLen at hm
    refine ⟨_, cap, rfl, by omega, .inr ⟨g, rfl, fun j u hu => ?_⟩⟩
    have := hc.cells (g := g) rfl _ _ hu
    rwa [ad0, Nat.zero_add] at this

set_option maxHeartbeats 1600000 in
theorem cells_same (ps : List (Int × Int)) (v u : Value) (B C : Nat) (w : World) (hv : w.ownsRow B 25 2 v ps.length (flatP ps)) (hu : w.ownsRow C 25 2 u ps.length (flatP ps)) :
    Calls Tryd.prog 24 #[v, u] w fun e w' => e = .returned (.bool true) ∧ Below w.heap.size w w' := by
  obtain ⟨a, cap, rfl, hm, hx⟩ := own_shape hv
  obtain ⟨b, cap', rfl, _, hy⟩ := own_shape hu
  obtain ⟨n, hn⟩ : ∃ n, ps.length = n := ⟨_, rfl⟩
  have HN := Lib.hid hn
  rw [hn] at hm ⊢
  clear hv hu hn
  have hA := bl0 w
  go_enter Tryd.func24, Tryd.ntmps24
  go_wp2
  go_loopw [5] (fun i wr => ∃ k : Nat, k ≤ n ∧ i = .int .i64 k ∧ Below w.heap.size w wr) (fun i _ => n - (intOf i).toNat)
  case atStart => exact ⟨0, by omega, rfl, hA⟩
  case round =>
    obtain ⟨k, hk, rfl, hB⟩ := hrel
    clear hA
    by_cases hlt : k < n
    · have hlt' : (k : Int) < (n : Int) := by omega
      obtain ⟨x, y, e0, e1⟩ := flatP_get ps k (by have := HN.out; omega)
      have hne : ps ≠ [] := by
        intro h
        subst h
        simp [flatP] at e0
      obtain ⟨g, rfl, hg⟩ := hx.resolve_left hne
      obtain ⟨g', rfl, hg'⟩ := hy.resolve_left hne
      have x0 := cell_later hB (hg _ _ e0)
      have x1 := cell_later hB (hg _ _ e1)
      have y0 := cell_later hB (hg' _ _ e0)
      have y1 := cell_later hB (hg' _ _ e1)
      clear hx hy hg hg' e0 e1 hne
      go_wp2
      go_quiet (fail)
      go_wp2
      go_roundw
      case rel => exact ⟨k + 1, by omega, by go_num, bl_tr hB (bl_drn _ _)⟩
      case measure => simp [intOf]; omega
    · obtain rfl : k = n := by omega
      clear hx hy
      go_wp2
      go_ret
      exact ⟨rfl, hB⟩

def nbP (W H X Y : Int) : Nat → List (Int × Int)
  | 0 => []
  | k + 1 => nbP W H X Y k ++ if inB W H (X + dxI k) (Y + dyI k) = true then [(X + dxI k, Y + dyI k)] else []
theorem nbP_len (W H X Y : Int) : ∀ k, (nbP W H X Y k).length ≤ k
  | 0 => by simp [nbP]
  | k + 1 => by
    have := nbP_len W H X Y k
    simp only [nbP, List.length_append]
    split <;> simp <;> omega
theorem nbP_in {W H X Y U T : Int} {k : Nat} (hU : X + dxI k = U) (hT : Y + dyI k = T) (h : inB W H U T = true) : nbP W H X Y (k + 1) = nbP W H X Y k ++ [(U, T)] := by
  subst hU hT
  simp [nbP, h]
theorem nbP_out {W H X Y : Int} {k : Nat} (h : ¬ inB W H (X + dxI k) (Y + dyI k) = true) : nbP W H X Y (k + 1) = nbP W H X Y k := by
  simp [nbP, h]
theorem nb_own {w : World} {B : Nat} {v : Value} {W H X Y U T : Int} {k : Nat} (hU : X + dxI k = U) (hT : Y + dyI k = T) (h : inB W H U T = true)
    (ho : w.ownsRow B 25 2 v ((nbP W H X Y k).length + 1) (flatP (nbP W H X Y k) ++ [.int .i64 U, .int .i64 T])) : w.ownsRow B 25 2 v (nbP W H X Y (k + 1)).length (flatP (nbP W H X Y (k + 1))) := by
  rw [nbP_in hU hT h, flatP_append, List.length_append]
  exact ho
theorem nb_own' {w : World} {B : Nat} {v : Value} {W H X Y : Int} {k : Nat} (h : ¬ inB W H (X + dxI k) (Y + dyI k) = true)
    (ho : w.ownsRow B 25 2 v (nbP W H X Y k).length (flatP (nbP W H X Y k))) : w.ownsRow B 25 2 v (nbP W H X Y (k + 1)).length (flatP (nbP W H X Y (k + 1))) := by
  rw [nbP_out h]
  exact ho
theorem two_new2 (w : World) (o : Obj) (a b : Value) (t : TypeId) : ∀ j u, [a, b][j]? = some u → ((w.alloc o).alloc (.cells #[a, b] t)).cell? ((⟨w.heap.size + 1, 0, none⟩ : Addr).add j) = some u := by
  have := cell_two_new (w.alloc o) a b t
  simpa using this

set_option maxRecDepth 100000 in
set_option maxHeartbeats 3200000 in
theorem beside_yes (W H X Y : Int) (w : World) (hs : Stp w) (hi : inB W H X Y = true) :
    Calls Tryd.prog 20 #[.agg #[.int .i64 W, .int .i64 H], .agg #[.int .i64 X, .int .i64 Y]] w fun e w' => ∃ v, e = .returned (.tuple #[v, .int .i64 0]) ∧ w'.ownsRow w.heap.size 25 2 v (nbP W H X Y 4).length (flatP (nbP W H X Y 4)) ∧ Below w.heap.size w w' := by
  obtain ⟨i0, hi0, hz0, hz1, hz2⟩ := info_parts Tryd.infoCell
  have hA := bl0 w
  go_enter Tryd.func20, Tryd.ntmps20
  go_wp2_with fail
  refine (in_any _ _ _ _ _).mono ?_
  rintro e w1 ⟨rfl, hb⟩
  have hk : Below w.heap.size w w1 := by first | exact hb | exact bl_tr (bl_al (bl0 _) _) hb | exact bl_tr (bl_dr (bl_al (bl0 _) _)) hb | exact bl_tr (bl_al (bl_al (bl0 _) _) _) hb | exact bl_tr (bl_dr (bl_al (bl_al (bl0 _) _) _)) hb | exact bl_tr (bl_al (bl_al (bl_al (bl0 _) _) _) _) hb | exact bl_tr (bl_dr (bl_al (bl_al (bl_al (bl0 _) _) _) _)) hb | exact bl_tr (bl_al (bl_al (bl_al (bl_al (bl0 _) _) _) _) _) hb | exact bl_tr (bl_dr (bl_al (bl_al (bl_al (bl_al (bl0 _) _) _) _) _)) hb | exact bl_tr (bl_al (bl_al (bl_al (bl_al (bl_al (bl0 _) _) _) _) _) _) hb | exact bl_tr (bl_dr (bl_al (bl_al (bl_al (bl_al (bl_al (bl0 _) _) _) _) _) _)) hb | exact bl_tr (bl_al (bl_al (bl_al (bl_al (bl_al (bl_al (bl0 _) _) _) _) _) _) _) hb | exact bl_tr (bl_dr (bl_al (bl_al (bl_al (bl_al (bl_al (bl_al (bl0 _) _) _) _) _) _) _)) hb | exact bl_tr (bl_dr (bl0 _)) hb
  replace hA := bl_tr hA hk
  have s0 := cell_later hb (v := .int .i64 W) (a := ⟨w.heap.size, 0, none⟩) (by simp [go_sem])
  have s1 := cell_later hb (v := .int .i64 H) (a := ⟨w.heap.size, 1, none⟩) (by simp [go_sem])
  have a0 := cell_later hb (v := .int .i64 X) (a := ⟨w.heap.size + 1, 0, none⟩) (by simp [go_sem])
  have a1 := cell_later hb (v := .int .i64 Y) (a := ⟨w.heap.size + 1, 1, none⟩) (by simp [go_sem])
  clear hb hk
  have zs0 := blk_lt s0
  have zs1 := blk_lt s1
  have za0 := blk_lt a0
  have za1 := blk_lt a1
  go_wp2
  go_loopw [6, 14] (fun v i wr => ∃ k : Nat, k ≤ 4 ∧ i = .int .i64 k ∧ wr.ownsRow (w.heap.size + 2) 25 2 v (nbP W H X Y k).length (flatP (nbP W H X Y k)) ∧ Below w.heap.size w wr ∧
      wr.cell? ⟨w.heap.size, 0, none⟩ = some (.int .i64 W) ∧ wr.cell? ⟨w.heap.size, 1, none⟩ = some (.int .i64 H) ∧ wr.cell? ⟨w.heap.size + 1, 0, none⟩ = some (.int .i64 X) ∧ wr.cell? ⟨w.heap.size + 1, 1, none⟩ = some (.int .i64 Y)) (fun _ i _ => 4 - (intOf i).toNat)
  case atStart => exact ⟨0, by omega, rfl, World.ownsRow_nil _ _ _ _, hA, s0, s1, a0, a1⟩
  case round =>
    obtain ⟨k, hk, rfl, hown, hB, q0, q1, b0, b1⟩ := hrel
    clear hA s0 s1 a0 a1 zs0 zs1 za0 za1
    have hlen := nbP_len W H X Y k
    by_cases hlt : k < 4
    · have hlt' : (k : Int) < 4 := by omega
      have hk0 : (0 : Int) ≤ (k : Int) := by omega
      have hne0 : some w.heap.size ≠ Value.ownBlock u6 := fun e => by have := (hown.lt _ e.symm).1; omega
      have hne1 : some (w.heap.size + 1) ≠ Value.ownBlock u6 := fun e => by have := (hown.lt _ e.symm).1; omega
      have hlo := fun r hr => (hown.lt r hr).1
      by_cases hy : inB W H (X + dxI k) (Y + dyI k) = true
      · obtain ⟨U, hU⟩ : ∃ U, X + dxI k = U := ⟨_, rfl⟩
        obtain ⟨T, hT⟩ : ∃ T, Y + dyI k = T := ⟨_, rfl⟩
        rw [hU, hT] at hy
        have HU := Lib.hid hU
        have HT := Lib.hid hT
        clear hU hT
        go_wp2_with fail
        refine (step_to _ _ _ _ _ U T _ (hs.below hB) hk0 hlt' hi HU.out HT.out hy).mono ?_
        rintro e w2 ⟨rfl, hb⟩
        have hown2 := own_later hown hb
        have hB2 := bl_tr hB hb
        have q0' := cell_later hb q0
        have q1' := cell_later hb q1
        have b0' := cell_later hb b0
        have b1' := cell_later hb b1
        have hz2' := blk_lt b0'
        clear hb hown q0 q1 b0 b1
        go_wp2_with (at_builtin; refine wpList_append_own _ rfl _ _ 34 rfl (w.heap.size + 2) 25 i0 (.agg #[.int .i64 0, .int .i64 0]) 2 16 Tryd.underlying34 hi0 hz0 hz1 hz2 rfl (by decide) _ _ _ rfl ((hown2.alloc _).alloc _) ⟨w2.heap.size + 1, 0, none⟩ 1 1 [.int .i64 U, .int .i64 T] rfl rfl ?c1 ?c2 ?c3 ?c4 ?c5 ?_)
        case c1 => exact two_new2 _ _ _ _ _
        case c2 => intro u hu; simp at hu; rcases hu with rfl | rfl <;> rfl
        case c3 => unfold maxLen; omega
        case c4 => omega
        case c5 => simp; omega
        intro v' w3 hown' hgrow _
        have hB3 : Below w.heap.size w w3 := (bl_al (bl_al hB2 _) _).grown hgrow (by simp; omega) (fun r hr => by have := hlo r hr; omega)
        have n0 := hgrow.cell (cell_later (bl_al (bl_al (bl0 _) _) _) q0') hne0
        have n1 := hgrow.cell (cell_later (bl_al (bl_al (bl0 _) _) _) q1') hne0
        have n2 := hgrow.cell (cell_later (bl_al (bl_al (bl0 _) _) _) b0') hne1
        have n3 := hgrow.cell (cell_later (bl_al (bl_al (bl0 _) _) _) b1') hne1
        have hown3 := nb_own HU.out HT.out hy hown'
        clear hgrow hown' hown2 q0' q1' b0' b1' hB2 hz2' hne0 hne1 hlo hlen
        go_wp2
        go_roundw
        case rel => exact ⟨k + 1, by omega, by go_num, hown3, hB3, n0, n1, n2, n3⟩
        case measure => simp [intOf]; omega
      · have he := stepE_ne k
        go_wp2_with fail
        refine (step_not _ _ _ _ _ _ (hs.below hB) hi (fun h => hy h.2.2)).mono ?_
        rintro e w2 ⟨rfl, hb⟩
        have hown2 := nb_own' hy (own_later hown hb)
        have hB2 := bl_tr hB hb
        have q0' := cell_later hb q0
        have q1' := cell_later hb q1
        have b0' := cell_later hb b0
        have b1' := cell_later hb b1
        clear hb hown q0 q1 b0 b1 hne0 hne1 hlo hlen
        go_wp2
        go_roundw
        case rel => exact ⟨k + 1, by omega, by go_num, hown2.alloc _, bl_al hB2 _, cell_later (bl_al (bl0 _) _) q0', cell_later (bl_al (bl0 _) _) q1', cell_later (bl_al (bl0 _) _) b0', cell_later (bl_al (bl0 _) _) b1'⟩
        case measure => simp [intOf]; omega
    · obtain rfl : k = 4 := by omega
      go_wp2
      go_ret2
      exact ⟨_, rfl, own_base hown (by omega), hB⟩

set_option maxHeartbeats 400000 in
theorem beside_no (W H X Y : Int) (w : World) (hi : inB W H X Y = false) :
    Calls Tryd.prog 20 #[.agg #[.int .i64 W, .int .i64 H], .agg #[.int .i64 X, .int .i64 Y]] w fun e w' => e = .returned (.tuple #[.slice none 0 0, .int .i64 10]) ∧ Below w.heap.size w w' := by
  have hA := bl0 w
  go_enter Tryd.func20, Tryd.ntmps20
  go_wp2_with fail
  refine (in_any _ _ _ _ _).mono ?_
  rintro e w1 ⟨rfl, hb⟩
  have hk : Below w.heap.size w w1 := by first | exact hb | exact bl_tr (bl_al (bl0 _) _) hb | exact bl_tr (bl_dr (bl_al (bl0 _) _)) hb | exact bl_tr (bl_al (bl_al (bl0 _) _) _) hb | exact bl_tr (bl_dr (bl_al (bl_al (bl0 _) _) _)) hb | exact bl_tr (bl_al (bl_al (bl_al (bl0 _) _) _) _) hb | exact bl_tr (bl_dr (bl_al (bl_al (bl_al (bl0 _) _) _) _)) hb | exact bl_tr (bl_al (bl_al (bl_al (bl_al (bl0 _) _) _) _) _) hb | exact bl_tr (bl_dr (bl_al (bl_al (bl_al (bl_al (bl0 _) _) _) _) _)) hb | exact bl_tr (bl_al (bl_al (bl_al (bl_al (bl_al (bl0 _) _) _) _) _) _) hb | exact bl_tr (bl_dr (bl_al (bl_al (bl_al (bl_al (bl_al (bl0 _) _) _) _) _) _)) hb | exact bl_tr (bl_al (bl_al (bl_al (bl_al (bl_al (bl_al (bl0 _) _) _) _) _) _) _) hb | exact bl_tr (bl_dr (bl_al (bl_al (bl_al (bl_al (bl_al (bl_al (bl0 _) _) _) _) _) _) _)) hb | exact bl_tr (bl_dr (bl0 _)) hb
  replace hA := bl_tr hA hk
  clear hb hk
  go_wp2
  go_ret2
  exact ⟨rfl, hA⟩

set_option maxRecDepth 100000 in
set_option maxHeartbeats 3200000 in
theorem rbeside_yes (W H X Y : Int) (w : World) (hi : inB W H X Y = true) :
    Calls Tryd.prog 25 #[.agg #[.int .i64 W, .int .i64 H], .agg #[.int .i64 X, .int .i64 Y]] w fun e w' => ∃ v, e = .returned v ∧ w'.ownsRow w.heap.size 25 2 v (nbP W H X Y 4).length (flatP (nbP W H X Y 4)) ∧ Below w.heap.size w w' := by
  obtain ⟨i0, hi0, hz0, hz1, hz2⟩ := info_parts Tryd.infoCell
  have hp := plain_of_in hi
  obtain ⟨o0, o1, o2, o3⟩ := pair1 w (.int .i64 W) (.int .i64 H) (.int .i64 X) (.int .i64 Y) 23 25
  have hA := bl_al (bl_al (bl0 w) (.cells #[.int .i64 W, .int .i64 H] 23)) (.cells #[.int .i64 X, .int .i64 Y] 25)
  go_enter Tryd.func25, Tryd.ntmps25
  go_wp2
  go_loopw [5, 6] (fun v i wr => ∃ k : Nat, k ≤ 4 ∧ i = .int .i64 k ∧ wr.ownsRow (w.heap.size + 2) 25 2 v (nbP W H X Y k).length (flatP (nbP W H X Y k)) ∧ Below w.heap.size w wr ∧
      wr.cell? ⟨w.heap.size, 0, none⟩ = some (.int .i64 W) ∧ wr.cell? ⟨w.heap.size, 1, none⟩ = some (.int .i64 H) ∧ wr.cell? ⟨w.heap.size + 1, 0, none⟩ = some (.int .i64 X) ∧ wr.cell? ⟨w.heap.size + 1, 1, none⟩ = some (.int .i64 Y)) (fun _ i _ => 4 - (intOf i).toNat)
  case atStart => exact ⟨0, by omega, rfl, World.ownsRow_nil _ _ _ _, hA, o0, o1, o2, o3⟩
  case round =>
    obtain ⟨k, hk, rfl, hown, hB, q0, q1, b0, b1⟩ := hrel
    clear hA o0 o1 o2 o3
    have hlen := nbP_len W H X Y k
    by_cases hlt : k < 4
    · have hlt' : (k : Int) < 4 := by omega
      have hk0 : (0 : Int) ≤ (k : Int) := by omega
      have hne0 : some w.heap.size ≠ Value.ownBlock u5 := fun e => by have := (hown.lt _ e.symm).1; omega
      have hne1 : some (w.heap.size + 1) ≠ Value.ownBlock u5 := fun e => by have := (hown.lt _ e.symm).1; omega
      have hlo := fun r hr => (hown.lt r hr).1
      have hk1 := bl0 wr
      obtain ⟨U, hU⟩ : ∃ U, X + dxI k = U := ⟨_, rfl⟩
      obtain ⟨T, hT⟩ : ∃ T, Y + dyI k = T := ⟨_, rfl⟩
      have HU := Lib.hid hU
      have HT := Lib.hid hT
      clear hU hT
      by_cases hy : inB W H U T = true
      all_goals
        go_wp2
        go_region_held3 (fun w' => w'.cell? ⟨w.heap.size, 0, none⟩ = some (.int .i64 W) ∧ w'.cell? ⟨w.heap.size, 1, none⟩ = some (.int .i64 H) ∧ w'.cell? ⟨w.heap.size + 1, 0, none⟩ = some (.int .i64 X) ∧ w'.cell? ⟨w.heap.size + 1, 1, none⟩ = some (.int .i64 Y))
          (first | exact ⟨cell_later hk1 q0, cell_later hk1 q1, cell_later hk1 b0, cell_later hk1 b1⟩ | exact ⟨cell_later (bl_dr hk1) q0, cell_later (bl_dr hk1) q1, cell_later (bl_dr hk1) b0, cell_later (bl_dr hk1) b1⟩)
          (first
          | (go_at_call 26; refine (next_to _ _ _ U T _ hp hk0 hlt' HU.out HT.out).mono ?_; rintro e w2 ⟨rfl, hb⟩; replace hk1 := bl_tr (bl_dr hk1) hb; clear hb)
          | (go_at_call 14; refine (rin_any _ _ _ _ _).mono ?_; rintro e w4 ⟨rfl, hb⟩; replace hk1 := bl_tr hk1 hb; clear hb))
      · have q0' := cell_later hk1 q0
        have q1' := cell_later hk1 q1
        have b0' := cell_later hk1 b0
        have b1' := cell_later hk1 b1
        go_wp2_with fail
        refine (next_to _ _ _ U T _ hp hk0 hlt' HU.out HT.out).mono ?_
        rintro e w5 ⟨rfl, hb⟩
        replace q0' := cell_later hb q0'
        replace q1' := cell_later hb q1'
        replace b0' := cell_later hb b0'
        replace b1' := cell_later hb b1'
        have hz2' := blk_lt b0'
        have hk2 := bl_tr hk1 hb
        have hown2 := own_later hown hk2
        have hB2 := bl_tr hB hk2
        clear hb hown q0 q1 b0 b1 hk1 hk2 hB
        go_wp2_with (at_builtin; refine wpList_append_own _ rfl _ _ 34 rfl (w.heap.size + 2) 25 i0 (.agg #[.int .i64 0, .int .i64 0]) 2 16 Tryd.underlying34 hi0 hz0 hz1 hz2 rfl (by decide) _ _ _ rfl (hown2.alloc _) ⟨w5.heap.size, 0, none⟩ 1 1 [.int .i64 U, .int .i64 T] rfl rfl ?c1 ?c2 ?c3 ?c4 ?c5 ?_)
        case c1 => exact cell_two_new _ _ _ _
        case c2 => intro u hu; simp at hu; rcases hu with rfl | rfl <;> rfl
        case c3 => unfold maxLen; omega
        case c4 => omega
        case c5 => simp; omega
        intro v' w3 hown' hgrow _
        have hB3 : Below w.heap.size w w3 := (bl_al hB2 _).grown hgrow (by simp; omega) (fun r hr => by have := hlo r hr; omega)
        have n0 := hgrow.cell (cell_later (bl_al (bl0 _) _) q0') hne0
        have n1 := hgrow.cell (cell_later (bl_al (bl0 _) _) q1') hne0
        have n2 := hgrow.cell (cell_later (bl_al (bl0 _) _) b0') hne1
        have n3 := hgrow.cell (cell_later (bl_al (bl0 _) _) b1') hne1
        have hown3 := nb_own HU.out HT.out hy hown'
        clear hgrow hown' hown2 q0' q1' b0' b1' hB2 hz2' hne0 hne1 hlo hlen
        go_wp2
        go_roundw
        case rel => exact ⟨k + 1, by omega, by go_num, hown3, hB3, n0, n1, n2, n3⟩
        case measure => simp [intOf]; omega
      · have hown2 := nb_own' (by rw [HU.out, HT.out]; exact hy) (own_later hown hk1)
        have hB2 := bl_tr hB hk1
        have q0' := cell_later hk1 q0
        have q1' := cell_later hk1 q1
        have b0' := cell_later hk1 b0
        have b1' := cell_later hk1 b1
        clear hown q0 q1 b0 b1 hne0 hne1 hlo hlen hk1 hB
        go_wp2
        go_roundw
        case rel => exact ⟨k + 1, by omega, by go_num, hown2, hB2, q0', q1', b0', b1'⟩
        case measure => simp [intOf]; omega
    · obtain rfl : k = 4 := by omega
      go_wp2
      go_ret
      exact ⟨_, rfl, own_base hown (by omega), hB⟩
end Go.Proofs.YtdacoeehhpnkbaaDoor
