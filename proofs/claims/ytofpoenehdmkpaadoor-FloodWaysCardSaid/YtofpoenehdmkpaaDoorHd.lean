/- Heap: the place below; sinking. -/
import Derived.Test.YtofpoenehdmkpaaDoorHc
namespace Go.Proofs.YtofpoenehdmkpaaDoor
open Go.RowKit Go.Maps

/-- The place below that goes ahead of the other one. -/
def downN (l : List Th) (i : Nat) : Nat := if 2 * i + 2 < l.length ∧ aheadT (atT l (2 * i + 2)) (atT l (2 * i + 1)) = true then 2 * i + 2 else 2 * i + 1
theorem downN_bd (l : List Th) (i : Nat) (h : 2 * i + 1 < l.length) : i < downN l i ∧ downN l i < l.length := by
  unfold downN; split <;> omega

set_option maxRecDepth 100000 in
set_option maxHeartbeats 4000000 in
theorem below_no (B p b g cap : Nat) (s : HS) (i : Nat) (w : World) (h : HeapAt w B p b (.slice (some ⟨g, 0, none⟩) s.ts.length cap) s) (hl : s.ts.length ≤ 1048576) (hi : i < s.ts.length) (hA : s.ts.length ≤ 2 * i + 1) :
    Calls Tryd.prog 92 #[.pointer (some ⟨p, 0, none⟩), .int .i64 (i : Int)] w fun e w' => e = .returned (.tuple #[.int .i64 0, .bool false]) ∧ Below w.heap.size w w' := by
  have c0 := h.c0
  have i0 : (0 : Int) ≤ (i : Int) := by omega
  have i1 : (i : Int) ≤ 1048576 := by omega
  have hge : (s.ts.length : Int) ≤ 2 * (i : Int) + 1 := by omega
  clear h
  go_enter Tryd.func92, Tryd.ntmps92
  go_wp2
  go_ret2
  exact ⟨rfl, bl0 _⟩

set_option maxRecDepth 100000 in
set_option maxHeartbeats 4000000 in
theorem below_yes (B p b g cap : Nat) (s : HS) (i : Nat) (w : World) (h : HeapAt w B p b (.slice (some ⟨g, 0, none⟩) s.ts.length cap) s) (hl : s.ts.length ≤ 1048576) (hA : 2 * i + 1 < s.ts.length) :
    Calls Tryd.prog 92 #[.pointer (some ⟨p, 0, none⟩), .int .i64 (i : Int)] w fun e w' => e = .returned (.tuple #[.int .i64 (downN s.ts i : Nat), .bool true]) ∧ Below w.heap.size w w' := by
  have c0 := h.c0
  have i0 : (0 : Int) ≤ (i : Int) := by omega
  have i1 : (i : Int) ≤ 1048576 := by omega
  have hlt : 2 * (i : Int) + 1 < (s.ts.length : Int) := by omega
  obtain ⟨d, hd⟩ : ∃ d, downN s.ts i = d := ⟨_, rfl⟩
  rw [hd]
  unfold downN at hd
  obtain ⟨r, hr⟩ : ∃ r, 2 * i + 2 = r := ⟨_, rfl⟩
  obtain ⟨l, hlf⟩ : ∃ l, 2 * i + 1 = l := ⟨_, rfl⟩
  have hrI : 2 * (i : Int) + 2 = (r : Int) := by omega
  have hlI : 2 * (i : Int) + 1 = (l : Int) := by omega
  have w1 : IntKind.i64.wrap (2 * (i : Int)) = 2 * (i : Int) := IntWalk.i64_in _ (by omega)
  have w2 : IntKind.i64.wrap (2 * (i : Int) + 1) = (l : Int) := by rw [IntWalk.i64_in _ (by omega), hlI]
  have w3 : IntKind.i64.wrap (2 * (i : Int) + 2) = (r : Int) := by rw [IntWalk.i64_in _ (by omega), hrI]
  rw [hr, hlf] at hd
  have hll : l < s.ts.length := by omega
  have hll1 : (l : Int) < (s.ts.length : Int) := by omega
  have hll0 : (0 : Int) ≤ (l : Int) := by omega
  have hrr0 : (0 : Int) ≤ (r : Int) := by omega
  clear hr hlf hlt hA
  by_cases hB : r < s.ts.length
  · obtain ⟨y0, y1, y2, y3, y4⟩ := h.at hB
    obtain ⟨z0, z1, z2, z3, z4⟩ := h.at hll
    have hrr1 : (r : Int) < (s.ts.length : Int) := by omega
    generalize hx : atT s.ts r = x at *
    generalize hy : atT s.ts l = y at *
    have hBB : decide (r < s.ts.length) = true := by simpa using hB
    have HD := Lib.hid hd
    clear hd hx hy h hlI hrI
    have hA := bl_dr (bl0 w)
    go_enter Tryd.func92, Tryd.ntmps92
    go_upto_region 4 with fail
    go_region_held3 (fun w' => w'.cell? ⟨p, 0, none⟩ = some (.slice (some ⟨g, 0, none⟩) s.ts.length cap) ∧ w'.cell? ⟨g, r * 5, none⟩ = some (.int .i64 x.id) ∧ w'.cell? ⟨g, r * 5 + 1, none⟩ = some (.int .u64 x.F) ∧ w'.cell? ⟨g, r * 5 + 2, none⟩ = some (.int .u64 x.H) ∧ w'.cell? ⟨g, r * 5 + 3, none⟩ = some (.int .i64 x.Y) ∧ w'.cell? ⟨g, r * 5 + 4, none⟩ = some (.int .i64 x.X) ∧ w'.cell? ⟨g, l * 5, none⟩ = some (.int .i64 y.id) ∧ w'.cell? ⟨g, l * 5 + 1, none⟩ = some (.int .u64 y.F) ∧ w'.cell? ⟨g, l * 5 + 2, none⟩ = some (.int .u64 y.H) ∧ w'.cell? ⟨g, l * 5 + 3, none⟩ = some (.int .i64 y.Y) ∧ w'.cell? ⟨g, l * 5 + 4, none⟩ = some (.int .i64 y.X))
      (exact ⟨cell_later hA c0, cell_later hA y0, cell_later hA y1, cell_later hA y2, cell_later hA y3, cell_later hA y4, cell_later hA z0, cell_later hA z1, cell_later hA z2, cell_later hA z3, cell_later hA z4⟩)
      ((go_at_call 93; (with_reducible refine (ahead_any x y _).mono ?_); rintro e W2 ⟨rfl, hb⟩; replace hA := bl_tr hA hb; clear hb))
    all_goals
      have HA := Lib.hid hA
      clear hA
      cases ha : aheadT x y
      · have e := HD.out
        rw [if_neg (by rw [ha]; simp)] at e
        subst e
        go_wp2
        go_ret2
        exact ⟨rfl, HA.out⟩
      · have e := HD.out
        rw [if_pos ⟨hB, ha⟩] at e
        subst e
        go_wp2
        go_ret2
        exact ⟨rfl, HA.out⟩
  · have hge : (s.ts.length : Int) ≤ (r : Int) := by omega
    have hBB : decide (r < s.ts.length) = false := by simpa using hB
    rw [if_neg (by omega)] at hd
    clear h hlI hrI
    subst hd
    go_enter Tryd.func92, Tryd.ntmps92
    go_wp2
    go_quiet (fail)
    go_wp2
    go_ret2
    exact ⟨rfl, bl_drn _ _⟩
end Go.Proofs.YtofpoenehdmkpaaDoor
