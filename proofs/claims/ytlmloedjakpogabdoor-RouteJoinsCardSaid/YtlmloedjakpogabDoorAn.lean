/- Paths: the document's answer: a step, a cell's cost, the direction, what may be. -/
import Derived.Test.YtlmloedjakpogabDoorAg
namespace Go.Proofs.YtlmloedjakpogabDoor
open Go.RowKit

theorem ad0 (b off i : Nat) : (⟨b, off, none⟩ : Addr).add i = ⟨b, off + i, none⟩ := by unfold Addr.add; split <;> simp_all
theorem pair1 (w : World) (x y u v : Value) (t t' : TypeId) :
    ((w.alloc (.cells #[x, y] t)).alloc (.cells #[u, v] t')).cell? ⟨w.heap.size, 0, none⟩ = some x ∧ ((w.alloc (.cells #[x, y] t)).alloc (.cells #[u, v] t')).cell? ⟨w.heap.size, 1, none⟩ = some y ∧
    ((w.alloc (.cells #[x, y] t)).alloc (.cells #[u, v] t')).cell? ⟨w.heap.size + 1, 0, none⟩ = some u ∧ ((w.alloc (.cells #[x, y] t)).alloc (.cells #[u, v] t')).cell? ⟨w.heap.size + 1, 1, none⟩ = some v := by
  refine ⟨?_, ?_, ?_, ?_⟩ <;> simp [go_sem]

set_option maxHeartbeats 1600000 in
theorem next_to (X Y d U V : Int) (w : World) (hp : plainB X Y = true) (h0 : 0 ≤ d) (h4 : d < 4) (hx : X + dxI d = U) (hy : Y + dyI d = V) :
    Calls Tryd.prog 33 #[.agg #[.int .i64 X, .int .i64 Y], .int .i64 d] w fun e w' => e = .returned (.agg #[.int .i64 U, .int .i64 V]) ∧ Below w.heap.size w w' := by
  obtain ⟨a1, a2, a3, a4⟩ := plainB_iff.1 hp
  obtain rfl | rfl | rfl | rfl : d = 0 ∨ d = 1 ∨ d = 2 ∨ d = 3 := by omega
  all_goals
    simp [dxI, dyI] at hx hy
    subst hx hy
    go_enter Tryd.func33, Tryd.ntmps33
    go_wp2
    refine bodyPost_ret (v := .agg #[.int .i64 _, .int .i64 _]) (by simp [results, Tryd.results33, go_sem] <;> omega) rfl ⟨rfl, ?_⟩
    first
    | exact bl_al (bl_al (bl0 _) _) _
    | exact bl_al (bl_st (bl_al (bl0 _) _) (by omega) _) _
    | exact bl_st (bl_st (bl_al (bl_al (bl0 _) _) _) (by omega) _) (by omega) _

theorem rdir_hit {X Y U T dx dy : Int} {k : Nat} (hk : k < 4) (h1 : U - X = dx) (h2 : T - Y = dy) (h3 : X + dxI k = U) (h4 : Y + dyI k = T) : (k : Int) = dirI dx dy := by
  have e1 : dx = dxI k := by omega
  have e2 : dy = dyI k := by omega
  rw [e1, e2]
  obtain rfl | rfl | rfl | rfl : k = 0 ∨ k = 1 ∨ k = 2 ∨ k = 3 := by omega
  all_goals rfl
theorem rdir_next {dx dy : Int} {k : Nat} (hk : k < 4) (h : NoD k dx dy) (hn : dx = dxI k ∧ dy = dyI k → False) : NoD (k + 1) dx dy := by
  unfold NoD at h ⊢
  obtain rfl | rfl | rfl | rfl : k = 0 ∨ k = 1 ∨ k = 2 ∨ k = 3 := by omega
  all_goals
    simp [dxI, dyI] at hn
    simp at h ⊢
    omega
set_option maxHeartbeats 1600000 in
theorem rbes_core (X Y Z V dx dy : Int) (w : World) (hp : plainB X Y = true) (HX : Hid (Z - X = dx)) (HY : Hid (V - Y = dy)) :
    Calls Tryd.prog 23 #[.agg #[.int .i64 X, .int .i64 Y], .agg #[.int .i64 Z, .int .i64 V]] w fun e w' => e = .returned (.int .i64 (dirI dx dy)) ∧ Below w.heap.size w w' := by
  obtain ⟨o0, o1, o2, o3⟩ := pair1 w (.int .i64 X) (.int .i64 Y) (.int .i64 Z) (.int .i64 V) 37 37
  have hA := bl_al (bl_al (bl0 w) (.cells #[.int .i64 X, .int .i64 Y] 37)) (.cells #[.int .i64 Z, .int .i64 V] 37)
  go_enter Tryd.func23, Tryd.ntmps23
  go_wp2
  go_loopw [5] (fun i wr => ∃ k : Nat, k ≤ 4 ∧ i = .int .i64 k ∧ Below w.heap.size w wr ∧ wr.cell? ⟨w.heap.size, 0, none⟩ = some (.int .i64 X) ∧ wr.cell? ⟨w.heap.size, 1, none⟩ = some (.int .i64 Y) ∧ wr.cell? ⟨w.heap.size + 1, 0, none⟩ = some (.int .i64 Z) ∧ wr.cell? ⟨w.heap.size + 1, 1, none⟩ = some (.int .i64 V) ∧ NoD k dx dy) (fun i _ => 4 - (intOf i).toNat)
  case atStart => exact ⟨0, by omega, rfl, hA, o0, o1, o2, o3, by simp [NoD]⟩
  case round =>
    obtain ⟨k, hk, rfl, hB, s0, s1, a0, a1, hno⟩ := hrel
    clear hA o0 o1 o2 o3
    by_cases hlt : k < 4
    · have hlt' : (k : Int) < 4 := by omega
      have hk0 : (0 : Int) ≤ (k : Int) := by omega
      have hk1 := bl0 wr
      obtain ⟨U, hU⟩ : ∃ U, X + dxI k = U := ⟨_, rfl⟩
      obtain ⟨T, hT⟩ : ∃ T, Y + dyI k = T := ⟨_, rfl⟩
      have HU := Lib.hid hU
      have HT := Lib.hid hT
      clear hU hT
      by_cases hz : U = Z
      · subst hz
        by_cases hv : T = V
        · subst hv
          go_wp2
          go_region_held3 (fun w' => w'.cell? ⟨w.heap.size, 0, none⟩ = some (.int .i64 X) ∧ w'.cell? ⟨w.heap.size, 1, none⟩ = some (.int .i64 Y) ∧ w'.cell? ⟨w.heap.size + 1, 0, none⟩ = some (.int .i64 U) ∧ w'.cell? ⟨w.heap.size + 1, 1, none⟩ = some (.int .i64 T))
            (first | exact ⟨cell_later hk1 s0, cell_later hk1 s1, cell_later hk1 a0, cell_later hk1 a1⟩ | exact ⟨cell_later (bl_dr hk1) s0, cell_later (bl_dr hk1) s1, cell_later (bl_dr hk1) a0, cell_later (bl_dr hk1) a1⟩)
            (first | (go_at_call 33; refine (next_to _ _ _ U T _ hp hk0 hlt' HU.out HT.out).mono ?_; rintro e wz ⟨rfl, hb⟩; replace hk1 := bl_tr (bl_dr hk1) hb; clear hb))
          go_wp2
          go_ret
          exact ⟨ret_int (rdir_hit hlt HX.out HY.out HU.out HT.out), bl_tr hB hk1⟩
        · have hv' : (T == V) = false := by simpa using hv
          go_wp2
          go_region_held3 (fun w' => w'.cell? ⟨w.heap.size, 0, none⟩ = some (.int .i64 X) ∧ w'.cell? ⟨w.heap.size, 1, none⟩ = some (.int .i64 Y) ∧ w'.cell? ⟨w.heap.size + 1, 0, none⟩ = some (.int .i64 U) ∧ w'.cell? ⟨w.heap.size + 1, 1, none⟩ = some (.int .i64 V))
            (first | exact ⟨cell_later hk1 s0, cell_later hk1 s1, cell_later hk1 a0, cell_later hk1 a1⟩ | exact ⟨cell_later (bl_dr hk1) s0, cell_later (bl_dr hk1) s1, cell_later (bl_dr hk1) a0, cell_later (bl_dr hk1) a1⟩)
            (first | (go_at_call 33; refine (next_to _ _ _ U T _ hp hk0 hlt' HU.out HT.out).mono ?_; rintro e wz ⟨rfl, hb⟩; replace hk1 := bl_tr (bl_dr hk1) hb; clear hb))
          go_wp2
          go_roundw
          case rel => exact ⟨k + 1, by omega, by go_num, bl_tr hB hk1, cell_later hk1 s0, cell_later hk1 s1, cell_later hk1 a0, cell_later hk1 a1, rdir_next hlt hno (fun e => hv (by have h1 := HX.out; have h2 := HY.out; have h3 := HU.out; have h4 := HT.out; omega))⟩
          case measure => simp [intOf]; omega
      · have hz' : (U == Z) = false := by simpa using hz
        go_wp2
        go_region_held3 (fun w' => w'.cell? ⟨w.heap.size, 0, none⟩ = some (.int .i64 X) ∧ w'.cell? ⟨w.heap.size, 1, none⟩ = some (.int .i64 Y) ∧ w'.cell? ⟨w.heap.size + 1, 0, none⟩ = some (.int .i64 Z) ∧ w'.cell? ⟨w.heap.size + 1, 1, none⟩ = some (.int .i64 V))
          (first | exact ⟨cell_later hk1 s0, cell_later hk1 s1, cell_later hk1 a0, cell_later hk1 a1⟩ | exact ⟨cell_later (bl_dr hk1) s0, cell_later (bl_dr hk1) s1, cell_later (bl_dr hk1) a0, cell_later (bl_dr hk1) a1⟩)
          (first | (go_at_call 33; refine (next_to _ _ _ U T _ hp hk0 hlt' HU.out HT.out).mono ?_; rintro e wz ⟨rfl, hb⟩; replace hk1 := bl_tr (bl_dr hk1) hb; clear hb))
        go_wp2
        go_roundw
        case rel => exact ⟨k + 1, by omega, by go_num, bl_tr hB hk1, cell_later hk1 s0, cell_later hk1 s1, cell_later hk1 a0, cell_later hk1 a1, rdir_next hlt hno (fun e => hz (by have h1 := HX.out; have h2 := HY.out; have h3 := HU.out; have h4 := HT.out; omega))⟩
        case measure => simp [intOf]; omega
    · obtain rfl : k = 4 := by omega
      go_wp2
      go_ret
      exact ⟨ret_int (dir_nonE hno).symm, hB⟩
theorem rbes_any (p q : IC) (w : World) (hp : plB p = true) :
    Calls Tryd.prog 23 #[.agg #[.int .i64 p.1, .int .i64 p.2], .agg #[.int .i64 q.1, .int .i64 q.2]] w fun e w' => e = .returned (.int .i64 (besI p q)) ∧ Below w.heap.size w w' :=
  rbes_core p.1 p.2 q.1 q.2 _ _ w hp (Lib.hid rfl) (Lib.hid rfl)
set_option maxHeartbeats 400000 in
theorem rplain9_any (X Y : Int) (w : World) :
    Calls Tryd.prog 30 #[.agg #[.int .i64 X, .int .i64 Y]] w fun e w' => e = .returned (.bool (plainB X Y)) ∧ Below w.heap.size w w' := by
  go_enter Tryd.func30, Tryd.ntmps30
  go_wp2
  all_goals
    go_ret
    exact ⟨ret_bool (by rw [Bool.eq_iff_iff]; simp [plainB]; try omega), bl_al (bl0 _) _⟩
set_option maxRecDepth 100000 in
set_option maxHeartbeats 2000000 in
theorem rcost8_any (A B : Int) (a : Option Addr) (cap : Nat) (zs : List Int) (c : IC) (w : World) (hr : RowH w a zs) (hin : AllH zs) (hi : onB A B c = true) (hn : (zs.length : Int) = A * B) :
    Calls Tryd.prog 24 #[.agg #[.int .i64 A, .int .i64 B, .slice a zs.length cap], .agg #[.int .i64 c.1, .int .i64 c.2]] w fun e w' => e = .returned (.int .u64 (costAt A zs c)) ∧ Below w.heap.size w w' := by
  obtain ⟨j, hj, hl, hz⟩ := costAt_at hi hn
  obtain ⟨h1, h2, h3, h4, h5, h6, h7, h8⟩ := inB_iff.1 hi
  obtain ⟨m1, m2⟩ := mul_bd h7 (by omega) h1 h2
  obtain ⟨z1, z2⟩ := costAt_in (A := A) hin c
  have e1 : IntKind.i64.wrap (c.2 * A) = c.2 * A := IntWalk.i64_in _ (by omega)
  have e2 : IntKind.i64.wrap (j : Int) = j := IntWalk.i64_in _ (by omega)
  have hj0 : (0 : Int) ≤ (j : Int) := by omega
  have hl2 : (j : Int) < (zs.length : Int) := by omega
  obtain ⟨gb, go, rfl, q⟩ := hr.cell hl
  rw [hz] at q
  generalize costAt A zs c = z at *
  have e3 : IntKind.u64.wrap z = z := by rw [IntKind.wrap_u64]; omega
  replace q := cell_later (bl_al (bl_al (bl0 w) (.cells #[.int .i64 A, .int .i64 B, .slice (some ⟨gb, go, none⟩) zs.length cap] 26)) (.cells #[.int .i64 c.1, .int .i64 c.2] 37)) q
  clear hr hi hn hz h1 h2 h3 h4 h5 h6 h7 h8 m1 m2 z1 z2 hl
  go_enter Tryd.func24, Tryd.ntmps24
  go_wp2
  go_ret
  exact ⟨rfl, bl_al (bl_al (bl0 _) _) _⟩
end Go.Proofs.YtlmloedjakpogabDoor
