/- Texts joined: Jw, Jx, Nc, Jz, So, Sp, Sq, Sr. -/
import Derived.Test.YthebiibiapjdiaaQ3
import Derived.Test.YthebiibiapjdiaaQ1
import Derived.Test.YthebiibiapjdiaaQ4
import Derived.Test.YthebiibiapjdiaaR1
import Derived.Deep.LoopGhost
/- The document's answer for sets: a new set. -/
namespace Go.Proofs.Ythebiibiapjdiaa
open Go.RowKit

/-- A set of the reference: its size, and of each cell whether it is in. -/
def RefAt (W : World) (b h : Nat) (X Y : Int) (fs : List Bool) : Prop :=
  W.heap[b]? = some (.cells #[.int .i64 X, .int .i64 Y, .slice (some ⟨h, 0, none⟩) fs.length fs.length] 114 (0, 0)) ∧
  W.heap[h]? = some (.cells (fs.map Value.bool).toArray 4 (0, 0))
theorem Try.infoBool : (Try.prog.info? 4).map (fun i => (i.zero, i.size, i.bytes)) = some (some (.bool false), 1, 1) := by kernel_rfl
theorem make_bool (n : Nat) (hn : n ≤ 1048576) (w : World) : (Instr.makeSlice 78 (.int .i64 (n : Int)) (.int .i64 (n : Int))).run Try.prog w = .ok (.slice (some ⟨w.heap.size, 0, none⟩) n n) (w.alloc (.cells (Array.replicate n (Value.bool false)) 4)) := by
  have := run_make_row' (P := Try.prog) 78 4 (.bool false) 1 Try.underlying78 Try.infoBool rfl .i64 .i64 n (by omega) (by omega) w
  rw [made_eq] at this
  exact this

set_option maxHeartbeats 1600000 in
theorem rnew_no (X Y : Int) (w : World) (hm : mayB X Y = false) :
    Calls Try.prog 68 #[.agg #[.int .i64 X, .int .i64 Y]] w fun e w' => e = .returned (.pointer none) ∧ Below w.heap.size w w' := by
  go_enter Try.func68, Try.ntmps68
  go_wp2_with (go_at_call 59; refine (rmay_any _ _ _).mono ?_; rintro e w' ⟨rfl, hb⟩; obtain ⟨hc, hf⟩ := bcell hb)
  go_ret
  exact ⟨rfl, bl_tr (bl_al (bl0 _) _) hb⟩

set_option maxHeartbeats 1600000 in
theorem rnew_yes (X Y : Int) (w : World) (hm : mayB X Y = true) :
    Calls Try.prog 68 #[.agg #[.int .i64 X, .int .i64 Y]] w fun e w' => ∃ b h, e = .returned (.pointer (some ⟨b, 0, none⟩)) ∧ RefAt w' b h X Y (List.replicate (X * Y).toNat false) ∧ w.heap.size ≤ b ∧ w.heap.size ≤ h ∧ b ≠ h ∧ Below w.heap.size w w' := by
  obtain ⟨h1, h2, h3, h4⟩ := mayB_iff.1 hm
  obtain ⟨m1, m2⟩ : 0 ≤ X * Y ∧ X * Y ≤ 65536 := ⟨Int.mul_nonneg (by omega) (by omega), by have a : X * Y ≤ 256 * Y := Int.mul_le_mul_of_nonneg_right h2 (by omega); omega⟩
  obtain ⟨n, hn⟩ : ∃ n : Nat, (n : Int) = X * Y := ⟨(X * Y).toNat, by omega⟩
  have hmk := fun w => make_bool n (by omega) w
  have hw : IntKind.i64.wrap (X * Y) = X * Y := IntWalk.i64_in _ (by omega)
  rw [hn] at hmk
  have HN := Lib.hid (show (X * Y).toNat = n by omega)
  go_enter Try.func68, Try.ntmps68
  clear hn
  go_wp2_with (go_at_call 59; refine (rmay_any _ _ _).mono ?_; rintro e w' ⟨rfl, hb⟩; obtain ⟨hc, hf⟩ := bcell hb)
  have c0 : w'.cell? ⟨w.heap.size, 0, none⟩ = some (.int .i64 X) := (hc _ _ (by simp)).trans (by simp [go_sem])
  have c1 : w'.cell? ⟨w.heap.size, 1, none⟩ = some (.int .i64 Y) := (hc _ _ (by simp)).trans (by simp [go_sem])
  have hbw := bl_tr (bl_al (bl0 w) _) hb
  clear hc hf hb
  have z0 := blk_lt c0
  have z1 : w.heap.size < w'.heap.size + 1 := by omega
  have hA := bl_dr (bl0 w')
  go_region_held3 (fun w2 => w2.cell? ⟨w.heap.size, 0, none⟩ = some (.int .i64 X) ∧ w2.cell? ⟨w.heap.size, 1, none⟩ = some (.int .i64 Y))
    (first | exact ⟨cell_later hA c0, cell_later hA c1⟩ | exact ⟨cell_later (bl_al hA _) c0, cell_later (bl_al hA _) c1⟩ | exact ⟨cell_later (bl_al (bl_al hA _) _) c0, cell_later (bl_al (bl_al hA _) _) c1⟩)
    (fail)
  go_wp2
  go_ret
  have h9 := hbw.size
  refine ⟨w'.heap.size + 1, w'.heap.size, rfl, ?_, by omega, by omega, by omega, bl_dr (bl_al (bl_al hbw _) _)⟩
  rw [HN.out]
  refine ⟨?_, ?_⟩
  · rw [List.length_replicate]
    have h := heap_alloc_new (w'.alloc (.cells (Array.replicate n (Value.bool false)) 4)) (.cells #[.int .i64 X, .int .i64 Y, .slice (some ⟨w'.heap.size, 0, none⟩) n n] 114)
    rw [World.size_alloc] at h
    exact h
  · show ((w'.alloc (.cells (Array.replicate n (Value.bool false)) 4)).alloc _).heap[w'.heap.size]? = _
    rw [Below.heap_alloc _ _ _ (by simp), heap_alloc_new]
    simp
end Go.Proofs.Ythebiibiapjdiaa

/- The document's answer for sets: Has. -/
namespace Go.Proofs.Ythebiibiapjdiaa
open Go.RowKit

theorem RefAt.c0 {W : World} {b h : Nat} {X Y : Int} {fs : List Bool} (m : RefAt W b h X Y fs) : W.cell? ⟨b, 0, none⟩ = some (.int .i64 X) := by simp [World.cell?, m.1]
theorem RefAt.c1 {W : World} {b h : Nat} {X Y : Int} {fs : List Bool} (m : RefAt W b h X Y fs) : W.cell? ⟨b, 1, none⟩ = some (.int .i64 Y) := by simp [World.cell?, m.1]
theorem RefAt.c2 {W : World} {b h : Nat} {X Y : Int} {fs : List Bool} (m : RefAt W b h X Y fs) : W.cell? ⟨b, 2, none⟩ = some (.slice (some ⟨h, 0, none⟩) fs.length fs.length) := by simp [World.cell?, m.1]
theorem RefAt.at {W : World} {b h k : Nat} {X Y : Int} {fs : List Bool} (m : RefAt W b h X Y fs) {x : Bool} (hk : fs[k]? = some x) : W.cell? ⟨h, k, none⟩ = some (.bool x) := by simp [World.cell?, m.2, hk]
theorem RefAt.below {W W' : World} {b h : Nat} {X Y : Int} {fs : List Bool} (m : RefAt W b h X Y fs) (hb : Below W.heap.size W W') : RefAt W' b h X Y fs :=
  ⟨(hb.block b (Array.getElem?_eq_some_iff.1 m.1).1).trans m.1, (hb.block h (Array.getElem?_eq_some_iff.1 m.2).1).trans m.2⟩

end Go.Proofs.Ythebiibiapjdiaa

/- The document's answer for sets: its cells. -/
namespace Go.Proofs.Ythebiibiapjdiaa
open Go.RowKit

/-- The cells of the first k numbers that are in. -/
def rcellsTo (X : Int) (fs : List Bool) (k : Nat) : List (Int × Int) := ((List.range k).filter (fun i => fs.getD i false)).map (fun i : Nat => ((i : Int) % X, (i : Int) / X))
def rcellsC (X : Int) (fs : List Bool) : List (Int × Int) := rcellsTo X fs fs.length
theorem rcellsTo_yes {X : Int} {fs : List Bool} {k : Nat} (h : fs.getD k false = true) : rcellsTo X fs (k + 1) = rcellsTo X fs k ++ [((k : Int) % X, (k : Int) / X)] := by
  unfold rcellsTo
  rw [List.range_succ, List.filter_append, List.map_append]
  simp only [List.filter_cons, h, if_true, List.filter_nil, List.map_cons, List.map_nil]
theorem rcellsTo_no {X : Int} {fs : List Bool} {k : Nat} (h : fs.getD k false = false) : rcellsTo X fs (k + 1) = rcellsTo X fs k := by
  unfold rcellsTo
  rw [List.range_succ, List.filter_append, List.map_append]
  rw [show List.filter (fun i => fs.getD i false) [k] = [] by simp only [List.filter_cons, h, List.filter_nil]; rfl]
  simp
theorem rcellsTo_le (X : Int) (fs : List Bool) (k : Nat) : (rcellsTo X fs k).length ≤ k := by
  unfold rcellsTo
  rw [List.length_map]
  exact Nat.le_trans (List.length_filter_le _ _) (by simp)

set_option maxRecDepth 100000 in
set_option maxHeartbeats 3200000 in
theorem rcells_any (b h : Nat) (X Y : Int) (fs : List Bool) (w : World) (hm : RefAt w b h X Y fs) (hX : 1 ≤ X) (hl : fs.length ≤ 65536) :
    Calls Try.prog 66 #[.pointer (some ⟨b, 0, none⟩)] w fun e w' => ∃ a cap, e = .returned (.slice a (rcellsC X fs).length cap) ∧ RowC w' a (rcellsC X fs) ∧ Below w.heap.size w w' := by
  obtain ⟨i0, hi, hz0, hz1, hz2⟩ := info_parts Try.infoCell
  have hl2 : (fs.length : Int) ≤ 65536 := by omega
  have HM := Lib.hid hm
  clear hm
  go_enter Try.func66, Try.ntmps66
  go_wp2
  go_loopw [3, 4] (fun v i wr => ∃ k : Nat, k ≤ fs.length ∧ i = .int .i64 k ∧ wr.ownsRow w.heap.size 37 2 v (rcellsTo X fs k).length (flatC (rcellsTo X fs k)) ∧ Below w.heap.size w wr) (fun _ i _ => fs.length - (intOf i).toNat)
  case atStart => exact ⟨0, Nat.zero_le _, rfl, by simpa [rcellsTo, flatC] using World.ownsRow_nil _ _ _ _, bl0 w⟩
  case round =>
    obtain ⟨k, hk, rfl, hown, hB⟩ := hrel
    have HO := Lib.hid hown
    have HB := Lib.hid hB
    clear hown hB
    have hm := HM.out.below HB.out
    have c0 := hm.c0
    have c2 := hm.c2
    by_cases hlt : k < fs.length
    · have hlt2 : (k : Int) < (fs.length : Int) := by omega
      have hk0 : (0 : Int) ≤ (k : Int) := by omega
      have q := hm.at (List.getElem?_eq_getElem hlt)
      have HG := Lib.hid (show fs.getD k false = fs[k] by simp [hlt])
      have hbd := rcellsTo_le X fs k
      clear hm
      cases hf : fs[k]
      · have HS := Lib.hid (rcellsTo_no (X := X) (show fs.getD k false = false by rw [HG.out, hf]))
        rw [hf] at q
        clear hf HG
        go_wp2
        go_roundw
        case rel => exact ⟨k + 1, by omega, by go_num, by rw [HS.out]; exact HO.out, HB.out⟩
        case measure => simp [intOf]; omega
      · have HS := Lib.hid (rcellsTo_yes (X := X) (show fs.getD k false = true by rw [HG.out, hf]))
        rw [hf] at q
        clear hf HG
        have hX0 : ¬ X = 0 := by omega
        have hrem : (k : Int).tmod X = (k : Int) % X := Int.tmod_eq_emod_of_nonneg hk0
        have hquo : (k : Int).tdiv X = (k : Int) / X := Int.tdiv_eq_ediv_of_nonneg hk0
        have hwr : IntKind.i64.wrap ((k : Int) / X) = (k : Int) / X := IntWalk.i64_in _ (by have := Int.ediv_nonneg hk0 (show 0 ≤ X by omega); have := Int.ediv_le_self X hk0; omega)
        go_upto_region 6 with fail
        have hA := bl_dr (bl0 wr)
        have c0d := cell_later hA c0
        refine (wpIn_wide (n := 11)).1 ?_
        refine ordS_begin (S := (fun w' => w'.cell? ⟨b, 0, none⟩ = some (.int .i64 X))) (by kernel_rfl) c0d (fun hH => ?_)
        first
          | (refine' ordS_take (i := 0) (oi := { dst := some 21, op := Op.move (Operand.tmp 3), type := 27, pos := _, after := #[], guard := none }) (v := _) rfl (by kernel_rfl) (by kernel_rfl) (by kernel_rfl) (by kernel_rfl) (fun _ _ _ h => h) (by assumption) (Or.inl ⟨by rfl, ?hy1⟩) (fun _ => rfl) ?rest1
             case hy1 => (intro w hSw; (try dsimp only at hSw); go_simp; try with_reducible rfl))
          | (refine ordS_take (i := 0) (oi := { dst := some 21, op := Op.move (Operand.tmp 3), type := 27, pos := _, after := #[], guard := none }) (v := undef) rfl (by kernel_rfl) (by kernel_rfl) (by kernel_rfl) (by kernel_rfl) (fun _ _ _ h => h) (by assumption) (Or.inr ⟨by rfl, rfl⟩) (fun _ => rfl) ?_)
        try simp only [Act.put, List.setIfInBounds_toArray, List.set_cons_zero, List.set_cons_succ]
        first
          | (refine' ordS_take (i := 1) (oi := { dst := some 22, op := Op.move (Operand.tmp 4), type := 3, pos := _, after := #[], guard := none }) (v := _) rfl (by kernel_rfl) (by kernel_rfl) (by kernel_rfl) (by kernel_rfl) (fun _ _ _ h => h) (by assumption) (Or.inl ⟨by rfl, ?hy2⟩) (fun _ => rfl) ?rest2
             case hy2 => (intro w hSw; (try dsimp only at hSw); go_simp; try with_reducible rfl))
          | (refine ordS_take (i := 1) (oi := { dst := some 22, op := Op.move (Operand.tmp 4), type := 3, pos := _, after := #[], guard := none }) (v := undef) rfl (by kernel_rfl) (by kernel_rfl) (by kernel_rfl) (by kernel_rfl) (fun _ _ _ h => h) (by assumption) (Or.inr ⟨by rfl, rfl⟩) (fun _ => rfl) ?_)
        try simp only [Act.put, List.setIfInBounds_toArray, List.set_cons_zero, List.set_cons_succ]
        first
          | (refine' ordS_take (i := 2) (oi := { dst := some 23, op := Op.move (Operand.tmp 0), type := 39, pos := _, after := #[], guard := none }) (v := _) rfl (by kernel_rfl) (by kernel_rfl) (by kernel_rfl) (by kernel_rfl) (fun _ _ _ h => h) (by assumption) (Or.inl ⟨by rfl, ?hy3⟩) (fun _ => rfl) ?rest3
             case hy3 => (intro w hSw; (try dsimp only at hSw); go_simp; try with_reducible rfl))
          | (refine ordS_take (i := 2) (oi := { dst := some 23, op := Op.move (Operand.tmp 0), type := 39, pos := _, after := #[], guard := none }) (v := undef) rfl (by kernel_rfl) (by kernel_rfl) (by kernel_rfl) (by kernel_rfl) (fun _ _ _ h => h) (by assumption) (Or.inr ⟨by rfl, rfl⟩) (fun _ => rfl) ?_)
        try simp only [Act.put, List.setIfInBounds_toArray, List.set_cons_zero, List.set_cons_succ]
        first
          | (refine' ordS_take (i := 3) (oi := { dst := some 24, op := Op.nilCheck (Operand.tmp 23), type := 0, pos := _, after := #[{ on := 2, ground := Ground.data }], guard := none }) (v := _) rfl (by kernel_rfl) (by kernel_rfl) (by kernel_rfl) (by kernel_rfl) (fun _ _ _ h => h) (by assumption) (Or.inl ⟨by rfl, ?hy4⟩) (fun _ => rfl) ?rest4
             case hy4 => (intro w hSw; (try dsimp only at hSw); go_simp; try with_reducible rfl))
          | (refine ordS_take (i := 3) (oi := { dst := some 24, op := Op.nilCheck (Operand.tmp 23), type := 0, pos := _, after := #[{ on := 2, ground := Ground.data }], guard := none }) (v := undef) rfl (by kernel_rfl) (by kernel_rfl) (by kernel_rfl) (by kernel_rfl) (fun _ _ _ h => h) (by assumption) (Or.inr ⟨by rfl, rfl⟩) (fun _ => rfl) ?_)
        try simp only [Act.put, List.setIfInBounds_toArray, List.set_cons_zero, List.set_cons_succ]
        first
          | (refine' ordS_take (i := 4) (oi := { dst := some 25, op := Op.fieldAddr 114 (Operand.tmp 24) 0, type := 0, pos := _, after := #[{ on := 3, ground := Ground.data }], guard := none }) (v := _) rfl (by kernel_rfl) (by kernel_rfl) (by kernel_rfl) (by kernel_rfl) (fun _ _ _ h => h) (by assumption) (Or.inl ⟨by rfl, ?hy5⟩) (fun _ => rfl) ?rest5
             case hy5 => (intro w hSw; (try dsimp only at hSw); go_simp; try with_reducible rfl))
          | (refine ordS_take (i := 4) (oi := { dst := some 25, op := Op.fieldAddr 114 (Operand.tmp 24) 0, type := 0, pos := _, after := #[{ on := 3, ground := Ground.data }], guard := none }) (v := undef) rfl (by kernel_rfl) (by kernel_rfl) (by kernel_rfl) (by kernel_rfl) (fun _ _ _ h => h) (by assumption) (Or.inr ⟨by rfl, rfl⟩) (fun _ => rfl) ?_)
        try simp only [Act.put, List.setIfInBounds_toArray, List.set_cons_zero, List.set_cons_succ]
        first
          | (refine' ordS_take (i := 5) (oi := { dst := some 26, op := Op.fieldAddr 23 (Operand.tmp 25) 0, type := 0, pos := _, after := #[{ on := 4, ground := Ground.data }], guard := none }) (v := _) rfl (by kernel_rfl) (by kernel_rfl) (by kernel_rfl) (by kernel_rfl) (fun _ _ _ h => h) (by assumption) (Or.inl ⟨by rfl, ?hy6⟩) (fun _ => rfl) ?rest6
             case hy6 => (intro w hSw; (try dsimp only at hSw); go_simp; try with_reducible rfl))
          | (refine ordS_take (i := 5) (oi := { dst := some 26, op := Op.fieldAddr 23 (Operand.tmp 25) 0, type := 0, pos := _, after := #[{ on := 4, ground := Ground.data }], guard := none }) (v := undef) rfl (by kernel_rfl) (by kernel_rfl) (by kernel_rfl) (by kernel_rfl) (fun _ _ _ h => h) (by assumption) (Or.inr ⟨by rfl, rfl⟩) (fun _ => rfl) ?_)
        try simp only [Act.put, List.setIfInBounds_toArray, List.set_cons_zero, List.set_cons_succ]
        first
          | (refine' ordS_take (i := 6) (oi := { dst := some 27, op := Op.load 3 (Operand.tmp 26), type := 3, pos := _, after := #[{ on := 5, ground := Ground.data }], guard := none }) (v := _) rfl (by kernel_rfl) (by kernel_rfl) (by kernel_rfl) (by kernel_rfl) (fun _ _ _ h => h) (by assumption) (Or.inl ⟨by rfl, ?hy7⟩) (fun _ => rfl) ?rest7
             case hy7 => (intro w hSw; (try dsimp only at hSw); go_simp; try with_reducible rfl))
          | (refine ordS_take (i := 6) (oi := { dst := some 27, op := Op.load 3 (Operand.tmp 26), type := 3, pos := _, after := #[{ on := 5, ground := Ground.data }], guard := none }) (v := undef) rfl (by kernel_rfl) (by kernel_rfl) (by kernel_rfl) (by kernel_rfl) (fun _ _ _ h => h) (by assumption) (Or.inr ⟨by rfl, rfl⟩) (fun _ => rfl) ?_)
        try simp only [Act.put, List.setIfInBounds_toArray, List.set_cons_zero, List.set_cons_succ]
        first
          | (refine' ordS_take (i := 7) (oi := { dst := some 28, op := Op.binOp BinOp.rem 3 (Operand.tmp 22) (Operand.tmp 27) 3, type := 3, pos := _, after := #[{ on := 1, ground := Ground.data }, { on := 6, ground := Ground.data }], guard := none }) (v := _) rfl (by kernel_rfl) (by kernel_rfl) (by kernel_rfl) (by kernel_rfl) (fun _ _ _ h => h) (by assumption) (Or.inl ⟨by rfl, ?hy8⟩) (fun _ => rfl) ?rest8
             case hy8 => (intro w hSw; (try dsimp only at hSw); go_simp; try with_reducible rfl))
          | (refine ordS_take (i := 7) (oi := { dst := some 28, op := Op.binOp BinOp.rem 3 (Operand.tmp 22) (Operand.tmp 27) 3, type := 3, pos := _, after := #[{ on := 1, ground := Ground.data }, { on := 6, ground := Ground.data }], guard := none }) (v := undef) rfl (by kernel_rfl) (by kernel_rfl) (by kernel_rfl) (by kernel_rfl) (fun _ _ _ h => h) (by assumption) (Or.inr ⟨by rfl, rfl⟩) (fun _ => rfl) ?_)
        try simp only [Act.put, List.setIfInBounds_toArray, List.set_cons_zero, List.set_cons_succ]
        first
          | (refine' ordS_take (i := 8) (oi := { dst := some 29, op := Op.move (Operand.tmp 4), type := 3, pos := _, after := #[], guard := none }) (v := _) rfl (by kernel_rfl) (by kernel_rfl) (by kernel_rfl) (by kernel_rfl) (fun _ _ _ h => h) (by assumption) (Or.inl ⟨by rfl, ?hy9⟩) (fun _ => rfl) ?rest9
             case hy9 => (intro w hSw; (try dsimp only at hSw); go_simp; try with_reducible rfl))
          | (refine ordS_take (i := 8) (oi := { dst := some 29, op := Op.move (Operand.tmp 4), type := 3, pos := _, after := #[], guard := none }) (v := undef) rfl (by kernel_rfl) (by kernel_rfl) (by kernel_rfl) (by kernel_rfl) (fun _ _ _ h => h) (by assumption) (Or.inr ⟨by rfl, rfl⟩) (fun _ => rfl) ?_)
        try simp only [Act.put, List.setIfInBounds_toArray, List.set_cons_zero, List.set_cons_succ]
        first
          | (refine' ordS_take (i := 9) (oi := { dst := some 30, op := Op.move (Operand.tmp 0), type := 39, pos := _, after := #[], guard := none }) (v := _) rfl (by kernel_rfl) (by kernel_rfl) (by kernel_rfl) (by kernel_rfl) (fun _ _ _ h => h) (by assumption) (Or.inl ⟨by rfl, ?hy10⟩) (fun _ => rfl) ?rest10
             case hy10 => (intro w hSw; (try dsimp only at hSw); go_simp; try with_reducible rfl))
          | (refine ordS_take (i := 9) (oi := { dst := some 30, op := Op.move (Operand.tmp 0), type := 39, pos := _, after := #[], guard := none }) (v := undef) rfl (by kernel_rfl) (by kernel_rfl) (by kernel_rfl) (by kernel_rfl) (fun _ _ _ h => h) (by assumption) (Or.inr ⟨by rfl, rfl⟩) (fun _ => rfl) ?_)
        try simp only [Act.put, List.setIfInBounds_toArray, List.set_cons_zero, List.set_cons_succ]
        first
          | (refine' ordS_take (i := 10) (oi := { dst := some 31, op := Op.nilCheck (Operand.tmp 30), type := 0, pos := _, after := #[{ on := 9, ground := Ground.data }], guard := none }) (v := _) rfl (by kernel_rfl) (by kernel_rfl) (by kernel_rfl) (by kernel_rfl) (fun _ _ _ h => h) (by assumption) (Or.inl ⟨by rfl, ?hy11⟩) (fun _ => rfl) ?rest11
             case hy11 => (intro w hSw; (try dsimp only at hSw); go_simp; try with_reducible rfl))
          | (refine ordS_take (i := 10) (oi := { dst := some 31, op := Op.nilCheck (Operand.tmp 30), type := 0, pos := _, after := #[{ on := 9, ground := Ground.data }], guard := none }) (v := undef) rfl (by kernel_rfl) (by kernel_rfl) (by kernel_rfl) (by kernel_rfl) (fun _ _ _ h => h) (by assumption) (Or.inr ⟨by rfl, rfl⟩) (fun _ => rfl) ?_)
        try simp only [Act.put, List.setIfInBounds_toArray, List.set_cons_zero, List.set_cons_succ]
        first
          | (refine' ordS_take (i := 11) (oi := { dst := some 32, op := Op.fieldAddr 114 (Operand.tmp 31) 0, type := 0, pos := _, after := #[{ on := 10, ground := Ground.data }], guard := none }) (v := _) rfl (by kernel_rfl) (by kernel_rfl) (by kernel_rfl) (by kernel_rfl) (fun _ _ _ h => h) (by assumption) (Or.inl ⟨by rfl, ?hy12⟩) (fun _ => rfl) ?rest12
             case hy12 => (intro w hSw; (try dsimp only at hSw); go_simp; try with_reducible rfl))
          | (refine ordS_take (i := 11) (oi := { dst := some 32, op := Op.fieldAddr 114 (Operand.tmp 31) 0, type := 0, pos := _, after := #[{ on := 10, ground := Ground.data }], guard := none }) (v := undef) rfl (by kernel_rfl) (by kernel_rfl) (by kernel_rfl) (by kernel_rfl) (fun _ _ _ h => h) (by assumption) (Or.inr ⟨by rfl, rfl⟩) (fun _ => rfl) ?_)
        try simp only [Act.put, List.setIfInBounds_toArray, List.set_cons_zero, List.set_cons_succ]
        first
          | (refine' ordS_take (i := 12) (oi := { dst := some 33, op := Op.fieldAddr 23 (Operand.tmp 32) 0, type := 0, pos := _, after := #[{ on := 11, ground := Ground.data }], guard := none }) (v := _) rfl (by kernel_rfl) (by kernel_rfl) (by kernel_rfl) (by kernel_rfl) (fun _ _ _ h => h) (by assumption) (Or.inl ⟨by rfl, ?hy13⟩) (fun _ => rfl) ?rest13
             case hy13 => (intro w hSw; (try dsimp only at hSw); go_simp; try with_reducible rfl))
          | (refine ordS_take (i := 12) (oi := { dst := some 33, op := Op.fieldAddr 23 (Operand.tmp 32) 0, type := 0, pos := _, after := #[{ on := 11, ground := Ground.data }], guard := none }) (v := undef) rfl (by kernel_rfl) (by kernel_rfl) (by kernel_rfl) (by kernel_rfl) (fun _ _ _ h => h) (by assumption) (Or.inr ⟨by rfl, rfl⟩) (fun _ => rfl) ?_)
        try simp only [Act.put, List.setIfInBounds_toArray, List.set_cons_zero, List.set_cons_succ]
        first
          | (refine' ordS_take (i := 13) (oi := { dst := some 34, op := Op.load 3 (Operand.tmp 33), type := 3, pos := _, after := #[{ on := 12, ground := Ground.data }], guard := none }) (v := _) rfl (by kernel_rfl) (by kernel_rfl) (by kernel_rfl) (by kernel_rfl) (fun _ _ _ h => h) (by assumption) (Or.inl ⟨by rfl, ?hy14⟩) (fun _ => rfl) ?rest14
             case hy14 => (intro w hSw; (try dsimp only at hSw); go_simp; try with_reducible rfl))
          | (refine ordS_take (i := 13) (oi := { dst := some 34, op := Op.load 3 (Operand.tmp 33), type := 3, pos := _, after := #[{ on := 12, ground := Ground.data }], guard := none }) (v := undef) rfl (by kernel_rfl) (by kernel_rfl) (by kernel_rfl) (by kernel_rfl) (fun _ _ _ h => h) (by assumption) (Or.inr ⟨by rfl, rfl⟩) (fun _ => rfl) ?_)
        try simp only [Act.put, List.setIfInBounds_toArray, List.set_cons_zero, List.set_cons_succ]
        first
          | (refine' ordS_take (i := 14) (oi := { dst := some 35, op := Op.binOp BinOp.quo 3 (Operand.tmp 29) (Operand.tmp 34) 3, type := 3, pos := _, after := #[{ on := 8, ground := Ground.data }, { on := 13, ground := Ground.data }], guard := none }) (v := _) rfl (by kernel_rfl) (by kernel_rfl) (by kernel_rfl) (by kernel_rfl) (fun _ _ _ h => h) (by assumption) (Or.inl ⟨by rfl, ?hy15⟩) (fun _ => rfl) ?rest15
             case hy15 => (intro w hSw; (try dsimp only at hSw); go_simp; try with_reducible rfl))
          | (refine ordS_take (i := 14) (oi := { dst := some 35, op := Op.binOp BinOp.quo 3 (Operand.tmp 29) (Operand.tmp 34) 3, type := 3, pos := _, after := #[{ on := 8, ground := Ground.data }, { on := 13, ground := Ground.data }], guard := none }) (v := undef) rfl (by kernel_rfl) (by kernel_rfl) (by kernel_rfl) (by kernel_rfl) (fun _ _ _ h => h) (by assumption) (Or.inr ⟨by rfl, rfl⟩) (fun _ => rfl) ?_)
        try simp only [Act.put, List.setIfInBounds_toArray, List.set_cons_zero, List.set_cons_succ]
        first
          | (refine' ordS_take (i := 15) (oi := { dst := some 36, op := Op.build 37 #[(0, Operand.tmp 28), (1, Operand.tmp 35)], type := 37, pos := _, after := #[{ on := 7, ground := Ground.data }, { on := 14, ground := Ground.data }], guard := none }) (v := _) rfl (by kernel_rfl) (by kernel_rfl) (by kernel_rfl) (by kernel_rfl) (fun _ _ _ h => h) (by assumption) (Or.inl ⟨by rfl, ?hy16⟩) (fun _ => rfl) ?rest16
             case hy16 => (intro w hSw; (try dsimp only at hSw); go_simp; try with_reducible rfl))
          | (refine ordS_take (i := 15) (oi := { dst := some 36, op := Op.build 37 #[(0, Operand.tmp 28), (1, Operand.tmp 35)], type := 37, pos := _, after := #[{ on := 7, ground := Ground.data }, { on := 14, ground := Ground.data }], guard := none }) (v := undef) rfl (by kernel_rfl) (by kernel_rfl) (by kernel_rfl) (by kernel_rfl) (fun _ _ _ h => h) (by assumption) (Or.inr ⟨by rfl, rfl⟩) (fun _ => rfl) ?_)
        try simp only [Act.put, List.setIfInBounds_toArray, List.set_cons_zero, List.set_cons_succ]
        obtain ⟨W2, hW2⟩ : ∃ W2, wr.drew = W2 := ⟨_, rfl⟩
        rw [hW2] at hA c0d
        rw [hW2]
        clear hW2 hH
        have hown2 := own_later HO.out hA
        have hB2 := bl_tr HB.out hA
        clear hA c0 c2 q hrem hquo hwr hX0
        obtain ⟨x, hx⟩ : ∃ x, (k : Int) % X = x := ⟨_, rfl⟩
        obtain ⟨y, hy⟩ : ∃ y, (k : Int) / X = y := ⟨_, rfl⟩
        rw [hx, hy] at HS
        rw [hx, hy]
        clear hx hy
        refine ordS_one (i := 16) (o := { dst := some 37, op := Op.buildSlice 27 1 #[(0, Operand.tmp 36)], type := 27, pos := _, after := #[{ on := 15, ground := Ground.data }], guard := none }) (by kernel_rfl) rfl (by rfl) (fun K hK => ?_)
        go_simp
        refine hK _ _ (cell_later (bl_al (bl0 W2) _) c0d) ?_
        clear hK K
        try simp only [Act.put, List.setIfInBounds_toArray, List.set_cons_zero, List.set_cons_succ]
        refine ordS_append (i := 17) (o := { dst := some 38, op := Op.call { callee := Callee.builtin Builtin.append, args := #[Operand.tmp 21, Operand.tmp 37], argTypes := #[27, 27] }, type := 27, pos := _, after := #[{ on := 0, ground := Ground.data }, { on := 16, ground := Ground.data }], guard := none }) _ (by kernel_rfl) rfl (by rfl) _ _ 27 rfl w.heap.size 37 i0 (.agg #[.int .i64 0, .int .i64 0]) 2 16 Try.underlying27 hi hz0 hz1 hz2 rfl (by decide) _ _ _ rfl (hown2.alloc _) ⟨W2.heap.size, 0, none⟩ 1 1 [.int .i64 x, .int .i64 y] rfl rfl ?c1 ?c2 ?c3 ?c4 ?c5 ?_
        case c1 => exact cell_two_new _ _ _ _
        case c2 => intro u hu; simp at hu; rcases hu with rfl | rfl <;> rfl
        case c3 => unfold maxLen; omega
        case c4 => omega
        case c5 => (have := hB2.size; first | (simp; omega) | omega)
        intro v' w1 hown' hgrow
        have hB1 : Below w.heap.size w w1 := (bl_al hB2 _).grown hgrow (by have := hB2.size; simp; omega) (fun j hj => by have := (hown2.lt j hj).1; omega)
        have c09 := (HM.out.below hB1).c0
        refine ⟨c09, ?_⟩
        try simp only [Act.put, List.setIfInBounds_toArray, List.set_cons_zero, List.set_cons_succ]
        first
          | (refine' ordS_take (i := 18) (oi := { dst := some 3, op := Op.assign (Operand.tmp 38), type := 27, pos := _, after := #[{ on := 17, ground := Ground.data }, { on := 17, ground := Ground.chain }, { on := 0, ground := Ground.phase }, { on := 1, ground := Ground.phase }, { on := 2, ground := Ground.phase }, { on := 3, ground := Ground.phase }, { on := 4, ground := Ground.phase }, { on := 5, ground := Ground.phase }, { on := 6, ground := Ground.phase }, { on := 7, ground := Ground.phase }, { on := 8, ground := Ground.phase }, { on := 9, ground := Ground.phase }, { on := 10, ground := Ground.phase }, { on := 11, ground := Ground.phase }, { on := 12, ground := Ground.phase }, { on := 13, ground := Ground.phase }, { on := 14, ground := Ground.phase }, { on := 15, ground := Ground.phase }, { on := 16, ground := Ground.phase }, { on := 17, ground := Ground.phase }], guard := none }) (v := _) rfl (by kernel_rfl) (by kernel_rfl) (by kernel_rfl) (by kernel_rfl) (fun _ _ _ h => h) (by assumption) (Or.inl ⟨by rfl, ?hy17⟩) (fun _ => rfl) ?rest17
             case hy17 => (intro w hSw; (try dsimp only at hSw); go_simp; try with_reducible rfl))
          | (refine ordS_take (i := 18) (oi := { dst := some 3, op := Op.assign (Operand.tmp 38), type := 27, pos := _, after := #[{ on := 17, ground := Ground.data }, { on := 17, ground := Ground.chain }, { on := 0, ground := Ground.phase }, { on := 1, ground := Ground.phase }, { on := 2, ground := Ground.phase }, { on := 3, ground := Ground.phase }, { on := 4, ground := Ground.phase }, { on := 5, ground := Ground.phase }, { on := 6, ground := Ground.phase }, { on := 7, ground := Ground.phase }, { on := 8, ground := Ground.phase }, { on := 9, ground := Ground.phase }, { on := 10, ground := Ground.phase }, { on := 11, ground := Ground.phase }, { on := 12, ground := Ground.phase }, { on := 13, ground := Ground.phase }, { on := 14, ground := Ground.phase }, { on := 15, ground := Ground.phase }, { on := 16, ground := Ground.phase }, { on := 17, ground := Ground.phase }], guard := none }) (v := undef) rfl (by kernel_rfl) (by kernel_rfl) (by kernel_rfl) (by kernel_rfl) (fun _ _ _ h => h) (by assumption) (Or.inr ⟨by rfl, rfl⟩) (fun _ => rfl) ?_)
        try simp only [Act.put, List.setIfInBounds_toArray, List.set_cons_zero, List.set_cons_succ]
        refine ordS_done (by kernel_rfl) ?_
        rw [← flatC_snoc (rcellsTo X fs k) (x, y), ← HS.out] at hown'
        have hlen : (rcellsTo X fs k).length + 1 = (rcellsTo X fs (k + 1)).length := by rw [HS.out]; simp
        rw [hlen] at hown'
        clear hgrow hown2 hB2 hlen HS c09 c0d
        go_wp2
        go_roundw
        case rel => exact ⟨k + 1, by omega, by go_num, hown', hB1⟩
        case measure => simp [intOf]; omega
    · obtain rfl : k = fs.length := by omega
      have hge : (fs.length : Int) ≤ (fs.length : Int) := by omega
      clear hm
      go_wp2
      go_ret
      obtain ⟨a', cap', rfl, hrc⟩ := rowC_of_own HO.out
      exact ⟨a', cap', rfl, hrc, HB.out⟩
end Go.Proofs.Ythebiibiapjdiaa

/- The document's answer for sets: Set. -/
namespace Go.Proofs.Ythebiibiapjdiaa
open Go.RowKit

theorem RefAt.fz {W : World} {b h k : Nat} {X Y : Int} {fs : List Bool} (m : RefAt W b h X Y fs) : W.frozen? ⟨h, k, none⟩ = false := by simp [World.frozen?, m.2]
theorem RefAt.set {W : World} {b h : Nat} {X Y : Int} {fs : List Bool} (m : RefAt W b h X Y fs) (hne : b ≠ h) (k : Nat) (v : Bool) : RefAt (W.setCell ⟨h, k, none⟩ (.bool v)) b h X Y (fs.set k v) := by
  refine ⟨(Below.heap_setCell _ _ _ b (show b ≠ h from hne)).trans (by rw [List.length_set]; exact m.1), ?_⟩
  rw [heap_set_same _ _ _ _ _ _ m.2]
  simp [List.map_set]

set_option maxHeartbeats 1600000 in
theorem rset_no (b h : Nat) (X Y x y : Int) (v : Bool) (fs : List Bool) (w : World) (hm : RefAt w b h X Y fs) (hi : inB X Y x y = false) :
    Calls Try.prog 69 #[.pointer (some ⟨b, 0, none⟩), .agg #[.int .i64 x, .int .i64 y], .bool v] w fun e w' => e = .returned (.int .i64 10) ∧ Below w.heap.size w w' := by
  have c0 := hm.c0
  have c1 := hm.c1
  have z0 := blk_lt c0
  clear hm
  go_enter Try.func69, Try.ntmps69
  go_wp2_with fail
  obtain ⟨w1, hw1'⟩ : ∃ w1, w.alloc (.cells #[.int .i64 x, .int .i64 y] 37) = w1 := ⟨_, rfl⟩
  have hb1 : Below w.heap.size w w1 := by rw [← hw1']; exact bl_al (bl0 _) _
  have d0 : w1.cell? ⟨w.heap.size, 0, none⟩ = some (.int .i64 x) := by rw [← hw1']; simp [go_sem]
  have d1 : w1.cell? ⟨w.heap.size, 1, none⟩ = some (.int .i64 y) := by rw [← hw1']; simp [go_sem]
  rw [hw1']
  replace c0 := cell_later hb1 c0
  replace c1 := cell_later hb1 c1
  clear hw1'
  have hA := bl_dr (bl0 w1)
  go_region_held3 (fun w' => w'.cell? ⟨b, 0, none⟩ = some (.int .i64 X) ∧ w'.cell? ⟨b, 1, none⟩ = some (.int .i64 Y) ∧ w'.cell? ⟨w.heap.size, 0, none⟩ = some (.int .i64 x) ∧ w'.cell? ⟨w.heap.size, 1, none⟩ = some (.int .i64 y))
    (exact ⟨cell_later hA c0, cell_later hA c1, cell_later hA d0, cell_later hA d1⟩)
    ((go_at_call 18; refine (rin_any _ _ _ _ _).mono ?_; rintro e W2 ⟨rfl, hb⟩; rw [hi]; replace hA := bl_tr hA hb; clear hb))
  go_wp2
  go_ret
  exact ⟨rfl, bl_tr hb1 hA⟩

set_option maxHeartbeats 4000000 in
theorem rset_yes (b h : Nat) (X Y x y : Int) (v : Bool) (fs : List Bool) (w : World) (hm : RefAt w b h X Y fs) (hne : b ≠ h) (hlen : (fs.length : Int) = X * Y) (hi : inB X Y x y = true) :
    Calls Try.prog 69 #[.pointer (some ⟨b, 0, none⟩), .agg #[.int .i64 x, .int .i64 y], .bool v] w fun e w' => e = .returned (.int .i64 0) ∧ RefAt w' b h X Y (fs.set (y * X + x).toNat v) ∧ w.grownBy w' (some h) := by
  obtain ⟨i0, i1⟩ := idx_lt hi
  have hix : (y * X + x).toNat < fs.length := by omega
  obtain ⟨o, ho⟩ : ∃ o, fs[(y * X + x).toNat]? = some o := ⟨_, List.getElem?_eq_getElem hix⟩
  have c0 := hm.c0
  have c1 := hm.c1
  have c2 := hm.c2
  have q := hm.at ho
  have z0 := blk_lt c0
  have z2 := blk_lt q
  have k1 : y * X + x < (fs.length : Int) := by omega
  have hib := inB_iff.1 hi
  have hw1 : IntKind.i64.wrap (y * X) = y * X := by
    obtain ⟨h1, h2, h3, h4, h5, h6, h7, h8⟩ := hib
    have := mul_bd h7 (by omega) h1 h2
    exact IntWalk.i64_in _ (by omega)
  have hw2 : IntKind.i64.wrap (y * X + x) = y * X + x := by
    obtain ⟨h1, h2, h3, h4, h5, h6, h7, h8⟩ := hib
    have := mul_bd h7 (by omega) h1 h2
    exact IntWalk.i64_in _ (by omega)
  clear hlen hib ho hix
  generalize hn : fs.length = n at c2 k1
  clear hn
  go_enter Try.func69, Try.ntmps69
  go_wp2_with fail
  obtain ⟨w1, hw1'⟩ : ∃ w1, w.alloc (.cells #[.int .i64 x, .int .i64 y] 37) = w1 := ⟨_, rfl⟩
  have hb1 : Below w.heap.size w w1 := by rw [← hw1']; exact bl_al (bl0 _) _
  have d0 : w1.cell? ⟨w.heap.size, 0, none⟩ = some (.int .i64 x) := by rw [← hw1']; simp [go_sem]
  have d1 : w1.cell? ⟨w.heap.size, 1, none⟩ = some (.int .i64 y) := by rw [← hw1']; simp [go_sem]
  rw [hw1']
  replace c0 := cell_later hb1 c0
  replace c1 := cell_later hb1 c1
  replace c2 := cell_later hb1 c2
  replace q := cell_later hb1 q
  clear hw1'
  have hA := bl_dr (bl0 w1)
  go_region_held3 (fun w' => w'.cell? ⟨b, 0, none⟩ = some (.int .i64 X) ∧ w'.cell? ⟨b, 1, none⟩ = some (.int .i64 Y) ∧ w'.cell? ⟨w.heap.size, 0, none⟩ = some (.int .i64 x) ∧ w'.cell? ⟨w.heap.size, 1, none⟩ = some (.int .i64 y))
    (exact ⟨cell_later hA c0, cell_later hA c1, cell_later hA d0, cell_later hA d1⟩)
    ((go_at_call 18; refine (rin_any _ _ _ _ _).mono ?_; rintro e W2 ⟨rfl, hb⟩; rw [hi]; replace hA := bl_tr hA hb; clear hb))
  have hm2 := (hm.below hb1).below hA
  have f2 := hm2.fz (k := (y * X + x).toNat)
  have HR := Lib.hid ((hm2.below (bl_dr (bl0 W2))).set hne (y * X + x).toNat v)
  have HG := Lib.hid (grown_tr (grown_weak (grown_of_below (bl_tr hb1 (bl_dr hA))) (some h)) (grown_set W2.drew h (y * X + x).toNat (.bool v)))
  replace c0 := cell_later hA c0
  replace c1 := cell_later hA c1
  replace c2 := cell_later hA c2
  replace q := cell_later hA q
  replace d0 := cell_later hA d0
  replace d1 := cell_later hA d1
  clear hm hm2 z0 z2 hA
  go_wp2
  go_region
  all_goals go_wp2
  go_ret
  exact ⟨rfl, HR.out, HG.out⟩
end Go.Proofs.Ythebiibiapjdiaa

/- The document's answer for sights: all cells of a map; sets of the reference that hold what a set holds. -/
namespace Go.Proofs.Ythebiibiapjdiaa
open Go.RowKit

def cellRb (W j : Nat) : List Value := [.int .i64 ((j % W : Nat) : Int), .int .i64 ((j / W : Nat) : Int)]
def flatRb (W n : Nat) : List Value := (List.range n).flatMap (cellRb W)
theorem flatRb_zero (W : Nat) : flatRb W 0 = [] := rfl
theorem flatRb_succ (W n : Nat) : flatRb W (n + 1) = flatRb W n ++ cellRb W n := by
  simp [flatRb, List.range_succ, List.flatMap_append]
theorem flatRb_len (W n : Nat) : (flatRb W n).length = n * 2 := by
  induction n with
  | zero => rfl
  | succ n ih => rw [flatRb_succ, List.length_append, ih]; simp [cellRb]; omega
theorem cellRb_of {W x y : Nat} (h : x < W) : cellRb W (y * W + x) = [.int .i64 (x : Int), .int .i64 (y : Int)] := by
  have e1 : (y * W + x) % W = x := by rw [Nat.add_comm, Nat.add_mul_mod_self_right, Nat.mod_eq_of_lt h]
  have e2 : (y * W + x) / W = y := by rw [Nat.add_comm, Nat.add_mul_div_right _ _ (by omega), Nat.div_eq_of_lt h, Nat.zero_add]
  simp [cellRb, e1, e2]
theorem flatRb_step {W x y : Nat} (h : x < W) : flatRb W (y * W + x) ++ [.int .i64 (x : Int), .int .i64 (y : Int)] = flatRb W (y * W + x + 1) := by
  rw [flatRb_succ, cellRb_of h]

theorem own_base {w : World} {B B' : Nat} {e : TypeId} {size : Nat} {v : Value} {n : Nat} {xs : List Value} (h : w.ownsRow B e size v n xs) (hB : B' ≤ B) : w.ownsRow B' e size v n xs := by
  refine ⟨h.1, ?_⟩
  rcases h.2 with h | ⟨g, cap, cur, h1, h2, h3⟩
  · exact .inl h
  · exact .inr ⟨g, cap, cur, h1, Nat.le_trans hB h2, h3⟩
set_option maxHeartbeats 1600000 in
theorem rcells_yes (W H : Nat) (w : World) (hW : W ≤ 256) (hH : H ≤ 256) :
    Calls Try.prog 70 #[.agg #[.int .i64 (W : Int), .int .i64 (H : Int)]] w fun e w' => ∃ v, e = .returned v ∧ w'.ownsRow w.heap.size 37 2 v (H * W) (flatRb W (H * W)) ∧ Below w.heap.size w w' := by
  obtain ⟨i0, hi, hz0, hz1, hz2⟩ := info_parts Try.infoCell
  have hA := bl_al (bl0 w) (.cells #[.int .i64 (W : Int), .int .i64 (H : Int)] 23)
  go_enter Try.func70, Try.ntmps70
  go_wp2
  go_loopw [3, 4] (fun v i wr => ∃ y : Nat, y ≤ H ∧ i = .int .i64 y ∧ wr.ownsRow (w.heap.size + 1) 37 2 v (y * W) (flatRb W (y * W)) ∧ Below w.heap.size w wr ∧
      wr.cell? ⟨w.heap.size, 0, none⟩ = some (.int .i64 (W : Int)) ∧ wr.cell? ⟨w.heap.size, 1, none⟩ = some (.int .i64 (H : Int))) (fun _ i _ => H - (intOf i).toNat)
  case atStart => exact ⟨0, Nat.zero_le _, rfl, by simpa [flatRb_zero] using World.ownsRow_nil _ _ _ _, hA, by simp [go_sem], by simp [go_sem]⟩
  case round =>
    obtain ⟨y, hy, rfl, hown, hB, s0, s1⟩ := hrel
    clear hA
    by_cases hlt : y < H
    · have hlt' : (y : Int) < (H : Int) := by omega
      go_wp2
      have hbd : y * W ≤ 65536 := by
        have a : y * W ≤ 256 * 256 := Nat.mul_le_mul (by omega) hW
        omega
      go_loopw [3, 5] (fun v i wx => ∃ x : Nat, x ≤ W ∧ i = .int .i64 x ∧ wx.ownsRow (w.heap.size + 1) 37 2 v (y * W + x) (flatRb W (y * W + x)) ∧ Below w.heap.size w wx ∧
          wx.cell? ⟨w.heap.size, 0, none⟩ = some (.int .i64 (W : Int)) ∧ wx.cell? ⟨w.heap.size, 1, none⟩ = some (.int .i64 (H : Int))) (fun _ i _ => W - (intOf i).toNat)
      case atStart => exact ⟨0, Nat.zero_le _, rfl, by simpa using hown, hB, s0, s1⟩
      case round =>
        obtain ⟨x, hx, rfl, hownx, hBx, q0, q1⟩ := hrel
        clear hown hB s0 s1
        by_cases hl2 : x < W
        · have hl2' : (x : Int) < (W : Int) := by omega
          have zq := blk_lt q0
          have hst := flatRb_step (y := y) hl2
          have HST := Lib.hid hst
          clear hst
          go_wp2_with (at_builtin; refine wpList_append_own _ rfl _ _ 27 rfl (w.heap.size + 1) 37 i0 (.agg #[.int .i64 0, .int .i64 0]) 2 16 Try.underlying27 hi hz0 hz1 hz2 rfl (by decide) _ _ _ rfl (hownx.alloc _) ⟨wr.heap.size, 0, none⟩ 1 1 [.int .i64 (x : Int), .int .i64 (y : Int)] rfl rfl ?c1 ?c2 ?c3 ?c4 ?c5 ?_)
          case c1 => exact cell_two_new _ _ _ _
          case c2 => intro u hu; simp at hu; rcases hu with rfl | rfl <;> rfl
          case c3 => unfold maxLen; omega
          case c4 => omega
          case c5 => simp; omega
          intro v' w1 hown' hgrow _
          have hne : some w.heap.size ≠ Value.ownBlock u3 := fun e => by have := (hownx.lt _ e.symm).1; omega
          have hB1 : Below w.heap.size w w1 := (bl_al hBx _).grown hgrow (by simp; omega) (fun k hk => by have := (hownx.lt k hk).1; omega)
          rw [HST.out] at hown'
          have q0' := hgrow.cell (cell_later (bl_al (bl0 _) _) q0) hne
          have q1' := hgrow.cell (cell_later (bl_al (bl0 _) _) q1) hne
          clear hgrow hownx q0 q1 hBx zq hne
          go_wp2
          go_roundw
          case rel => exact ⟨x + 1, by omega, by go_num, hown', hB1, q0', q1'⟩
          case measure => simp [intOf]; omega
        · have hl2' : ¬ (x : Int) < (W : Int) := by omega
          obtain rfl : x = W := by omega
          go_wp2
          go_roundw
          case rel => exact ⟨y + 1, by omega, by go_num, by rw [Nat.add_mul, Nat.one_mul]; exact hownx, hBx, q0, q1⟩
          case measure => simp [intOf]; omega
    · have hlt' : ¬ (y : Int) < (H : Int) := by omega
      obtain rfl : y = H := by omega
      go_wp2
      go_ret
      exact ⟨_, rfl, own_base hown (by omega), hB⟩

/-- Of each cell whether it is in. -/
def fsOf (N : Nat) (bs : List Nat) : List Bool := (List.range N).map (fun i => bitAt bs i)
theorem filter_less {p : Nat → Bool} {N d : Nat} (h : ∀ i, N ≤ i → p i = false) : (List.range (N + d)).filter p = (List.range N).filter p := by
  induction d with
  | zero => rfl
  | succ d ih => rw [← Nat.add_assoc, List.range_succ, List.filter_append, ih]; simp [h (N + d) (by omega)]
theorem cells_same {X Y : Int} {bs : List Nat} (hg : Good X Y bs) : rcellsC X (fsOf (X * Y).toNat bs) = cellsM X Y bs := by
  obtain ⟨h1, h2, h3, h4⟩ := mayB_iff.1 hg.1
  have m1 : 0 ≤ X * Y := Int.mul_nonneg (by omega) (by omega)
  obtain ⟨N, hN⟩ : ∃ N, (X * Y).toNat = N := ⟨_, rfl⟩
  have hXY : X * Y = (N : Int) := by omega
  have hl := hg.2.1
  have hNL : N ≤ bs.length * 8 := by omega
  rw [hN]
  have hfl : (fsOf N bs).length = N := by simp [fsOf]
  have hget : ∀ i, i < N → (fsOf N bs).getD i false = bitAt bs i := fun i hi => by simp [fsOf, hi]
  have hout : ∀ i, N ≤ i → bitAt bs i = false := fun i hi => hg.2.2.2 i (by omega)
  unfold rcellsC rcellsTo cellsM
  rw [hfl, numsOf_range, List.map_map]
  obtain ⟨d, hd⟩ : ∃ d, bs.length * 8 = N + d := ⟨bs.length * 8 - N, by omega⟩
  rw [hd, filter_less hout]
  rw [List.filter_congr (fun i hi => by rw [hget i (List.mem_range.1 hi)])]
  refine List.map_congr_left fun i hi => ?_
  rw [List.mem_filter, List.mem_range] at hi
  have hmem : (i : Int) ∈ numsOf bs := (mem_nums bs _).2 ⟨by omega, by simpa using hi.2⟩
  exact (cell_of_num hg hmem).symm

theorem fsOf_len (N : Nat) (bs : List Nat) : (fsOf N bs).length = N := by simp [fsOf]
theorem fsOf_get {N : Nat} {bs : List Nat} {i : Nat} (h : i < N) : (fsOf N bs).getD i false = bitAt bs i := by simp [fsOf, h]
theorem fsOf_zero (N n : Nat) : fsOf N (List.replicate n 0) = List.replicate N false := by
  refine List.ext_getElem (by simp [fsOf]) fun j h1 h2 => ?_
  simp only [fsOf, List.getElem_map, List.getElem_range, List.getElem_replicate]
  unfold bitAt
  rw [List.getD_eq_getElem?_getD, List.getElem?_replicate]
  split <;> simp
theorem fsOf_set {N : Nat} {bs : List Nat} {i : Nat} (v : Bool) (h : i / 8 < bs.length) : fsOf N (setB bs i v) = (fsOf N bs).set i v := by
  refine List.ext_getElem (by simp [fsOf]) fun j h1 h2 => ?_
  simp only [fsOf, List.getElem_map, List.getElem_range, List.getElem_set, bitAt_setB _ _ _ h]
  by_cases e : j = i
  · subst e; simp
  · rw [if_neg e, if_neg (fun x => e x.symm)]
theorem RefAt.lt {W : World} {b h : Nat} {X Y : Int} {fs : List Bool} (m : RefAt W b h X Y fs) : b < W.heap.size ∧ h < W.heap.size := ⟨(Array.getElem?_eq_some_iff.1 m.1).1, (Array.getElem?_eq_some_iff.1 m.2).1⟩
theorem RefAt.row {W W' : World} {b h g : Nat} {X Y : Int} {fs : List Bool} (m : RefAt W b h X Y fs) (hg : W.grownBy W' (some g)) (h1 : b ≠ g) (h2 : h ≠ g) : RefAt W' b h X Y fs :=
  ⟨(hg.block b m.lt.1 (fun e => h1 (Option.some.inj e))).trans m.1, (hg.block h m.lt.2 (fun e => h2 (Option.some.inj e))).trans m.2⟩
theorem mul_in {X Y : Int} (h : mayB X Y = true) : ((X * Y).toNat : Int) = X * Y := by
  obtain ⟨h1, h2, h3, h4⟩ := mayB_iff.1 h
  have m1 : 0 ≤ X * Y := Int.mul_nonneg (by omega) (by omega)
  omega

/-- All cells of a map, by numbers. -/
def allC (X : Int) (N : Nat) : List (Int × Int) := (List.range N).map (atC X)
theorem allC_len (X : Int) (N : Nat) : (allC X N).length = N := by simp [allC]
theorem flatRb_all (W : Nat) : ∀ N : Nat, flatRb W N = flatC (allC W N)
  | 0 => rfl
  | N + 1 => by
    rw [flatRb_succ, flatRb_all W N]
    unfold allC
    rw [List.range_succ, List.map_append, List.map_cons, List.map_nil, flatC_snoc]
    rfl
theorem rall_cells (X Y : Int) (w : World) (hm : mayB X Y = true) :
    Calls Try.prog 70 #[.agg #[.int .i64 X, .int .i64 Y]] w fun e w' => ∃ a cap, e = .returned (.slice a (X * Y).toNat cap) ∧ RowC w' a (allC X (X * Y).toNat) ∧ Below w.heap.size w w' := by
  obtain ⟨h1, h2, h3, h4⟩ := mayB_iff.1 hm
  obtain ⟨W, rfl⟩ := Int.eq_ofNat_of_zero_le (show 0 ≤ X by omega)
  obtain ⟨H, rfl⟩ := Int.eq_ofNat_of_zero_le (show 0 ≤ Y by omega)
  have e : ((W : Int) * (H : Int)).toNat = H * W := by rw [Nat.mul_comm, ← Int.natCast_mul, Int.toNat_natCast]
  rw [e]
  refine (rcells_yes W H w (by omega) (by omega)).mono ?_
  rintro e w' ⟨v, rfl, hown, hb⟩
  rw [flatRb_all] at hown
  have hl : (allC W (H * W)).length = H * W := allC_len _ _
  rw [← hl] at hown
  obtain ⟨a, cap, rfl, hr⟩ := rowC_of_own (zs := allC W (H * W)) (by simpa [hl] using hown)
  rw [hl]
  exact ⟨a, cap, rfl, hr, hb⟩
end Go.Proofs.Ythebiibiapjdiaa

/- The document's answer for sights: Visible. -/
namespace Go.Proofs.Ythebiibiapjdiaa
open Go.RowKit

/-- What one cell of the map adds. -/
def visTo (X : Int) (fs : List Int) (r : Int) (e : Int × Int) (bs : List Nat) (q : Int × Int) : List Nat := if (farN e q : Int) ≤ r then putAll X bs (seenF X fs e.1 e.2 q.1 q.2 (farN e q)) else bs
theorem Good.visTo {X Y r : Int} {fs : List Int} {e : Int × Int} {bs : List Nat} (g : Good X Y bs) (h1 : inB X Y e.1 e.2 = true) {q : Int × Int} (h2 : inB X Y q.1 q.2 = true) : Good X Y (visTo X fs r e bs q) := by
  unfold Proofs.Ythebiibiapjdiaa.visTo
  split
  · exact g.putAll _ (seen_in h1 h2)
  · exact g
theorem vis_iff {X Y r : Int} {fs : List Int} {e : Int × Int} (he : inB X Y e.1 e.2 = true) (c : Int × Int) : ∀ (l : List (Int × Int)) (bs : List Nat), (∀ q ∈ l, inB X Y q.1 q.2 = true) → Good X Y bs → Good X Y (l.foldl (visTo X fs r e) bs) ∧ (inM X Y (l.foldl (visTo X fs r e) bs) c = true ↔ inM X Y bs c = true ∨ ∃ q ∈ l, (farN e q : Int) ≤ r ∧ c ∈ seenF X fs e.1 e.2 q.1 q.2 (farN e q))
  | [], bs, _, g => by simp [g]
  | q :: l, bs, h, g => by
    have hq := h q (by simp)
    obtain ⟨g2, ih⟩ := vis_iff (r := r) (fs := fs) he c l (visTo X fs r e bs q) (fun y hy => h y (by simp [hy])) (g.visTo he hq)
    refine ⟨g2, ?_⟩
    rw [List.foldl_cons, ih]
    have e2 : inM X Y (visTo X fs r e bs q) c = true ↔ inM X Y bs c = true ∨ ((farN e q : Int) ≤ r ∧ c ∈ seenF X fs e.1 e.2 q.1 q.2 (farN e q)) := by
      unfold visTo
      split
      · rename_i hf
        rw [inM_putAll g (seen_in he hq)]
        simp [hf]
      · rename_i hf
        simp [hf]
    rw [e2]
    simp [or_assoc]
theorem allC_in {X Y : Int} (hm : mayB X Y = true) : ∀ q ∈ allC X (X * Y).toNat, inB X Y q.1 q.2 = true := by
  intro q hq
  obtain ⟨i, hi, rfl⟩ := List.mem_map.1 hq
  rw [List.mem_range] at hi
  have := mul_in hm
  exact (atC_num hm (by omega)).1
theorem mem_allC {X Y : Int} {q : Int × Int} (h : inB X Y q.1 q.2 = true) : q ∈ allC X (X * Y).toNat := by
  obtain ⟨a1, a2⟩ := idx_lt h
  refine List.mem_map.2 ⟨numC X q, ?_, atC_of h⟩
  rw [List.mem_range]
  unfold numC
  omega
/-- All of them: what is seen from the cell. -/
theorem vis_all {X Y r : Int} {fs : List Int} {e : Int × Int} (hm : mayB X Y = true) (he : inB X Y e.1 e.2 = true) (h0 : 0 ≤ r) (h1 : r ≤ 16) : (allC X (X * Y).toNat).foldl (visTo X fs r e) (List.replicate ((X * Y + 7) / 8).toNat 0) = allB X Y fs r [e] := by
  have hin : ∀ z ∈ [e], inB X Y z.1 z.2 = true := fun z hz => by simp at hz; rw [hz]; exact he
  have g := good_zero0 hm
  refine set_ext (vis_iff he (0, 0) _ _ (allC_in hm) g).1 (allB_good hm hin) fun c => ?_
  rw [(vis_iff he c _ _ (allC_in hm) g).2, allB_iff hm hin h0 h1, inM_zero]
  unfold Sees
  simp only [Bool.false_eq_true, false_or, List.mem_singleton, exists_eq_left]
  constructor
  · rintro ⟨q, hq, hf, hc⟩; exact ⟨q, allC_in hm q hq, hf, hc⟩
  · rintro ⟨q, hq, hf, hc⟩; exact ⟨q, mem_allC hq, hf, hc⟩

/-- A row of cells lies apart from a reference's set. -/
theorem rowC_apartR {w : World} {a : Option Addr} {zs : List (Int × Int)} {b h : Nat} {X Y : Int} {fs : List Bool} (hr : RowC w a zs) (hm : RefAt w b h X Y fs) : ∀ gb o, zs ≠ [] → a = some ⟨gb, o, none⟩ → gb ≠ h := by
  rintro gb o hz rfl rfl
  obtain ⟨b', o', e1, q, _⟩ := hr.cell (List.length_pos_iff.2 hz)
  cases e1
  unfold World.cell? at q
  simp only [hm.2] at q
  simp only [List.getElem?_toArray, List.getElem?_map] at q
  cases hq : fs[o + 0 * 2]? with
  | none => rw [hq] at q; simp at q
  | some v => rw [hq] at q; simp at q

set_option maxRecDepth 100000 in
set_option maxHeartbeats 16000000 in
theorem rvisible_any (X Y r P Q : Int) (a : Option Addr) (cap : Nat) (fs : List Int) (w : World) (hr : RowH w a fs) (hu : AllH fs) (hmay : mayB X Y = true) (harea : (fs.length : Int) = X * Y) (hi : inB X Y P Q = true) (h0 : 0 ≤ r) (h1 : r ≤ 16) :
    Calls Try.prog 22 #[.agg #[.int .i64 X, .int .i64 Y, .slice a fs.length cap], .agg #[.int .i64 P, .int .i64 Q], .int .i64 r] w fun e w' => ∃ b h, e = .returned (.pointer (some ⟨b, 0, none⟩)) ∧
      RefAt w' b h X Y (fsOf (X * Y).toNat (allB X Y fs r [(P, Q)])) ∧ w.heap.size ≤ b ∧ w.heap.size ≤ h ∧ b ≠ h ∧ Below w.heap.size w w' := by
  have hA := bl0 w
  have HI := Lib.hid hi
  have HAREA := Lib.hid harea
  have HVIS := Lib.hid (vis_all (fs := fs) (e := (P, Q)) hmay hi h0 h1)
  obtain ⟨z0, hz0⟩ : ∃ z0, List.replicate ((X * Y + 7) / 8).toNat 0 = z0 := ⟨_, rfl⟩
  have hg0 := good_zero0 hmay
  obtain ⟨N, hN⟩ : ∃ N, (X * Y).toNat = N := ⟨_, rfl⟩
  have hNl : N = fs.length := by omega
  have HN := Lib.hid hN
  have hfz : fsOf N z0 = List.replicate N false := by rw [← hz0]; exact fsOf_zero _ _
  have HFZ := Lib.hid hfz
  rw [hz0] at hg0 HVIS
  rw [hN] at HVIS ⊢
  have hN6 : N ≤ 65536 := by have := area_bd hmay; omega
  obtain ⟨cs, hcs⟩ : ∃ cs, allC X N = cs := ⟨_, rfl⟩
  have hcl : cs.length = N := by rw [← hcs, allC_len]
  have HCL := Lib.hid hcl
  have HCI := Lib.hid (show ∀ q ∈ cs, inB X Y q.1 q.2 = true by rw [← hcs, ← hN]; exact allC_in hmay)
  rw [hcs] at HVIS
  have HCS := Lib.hid hcs
  clear hi harea hz0 hN hNl hfz hcl hcs
  go_enter Try.func22, Try.ntmps22
  go_wp2_with fail
  refine (rnew_yes _ _ _ hmay).mono ?_
  rintro e w1 ⟨b, h, rfl, hm, hb1, hh1, hne, hb⟩
  have hk : Below w.heap.size w w1 := by first | exact hb | exact bl_tr (bl_al (bl0 _) _) hb | exact bl_tr (bl_dr (bl_al (bl0 _) _)) hb | exact bl_tr (bl_al (bl_al (bl0 _) _) _) hb | exact bl_tr (bl_dr (bl_al (bl_al (bl0 _) _) _)) hb | exact bl_tr (bl_al (bl_al (bl_al (bl0 _) _) _) _) hb | exact bl_tr (bl_dr (bl_al (bl_al (bl_al (bl0 _) _) _) _)) hb | exact bl_tr (bl_al (bl_al (bl_al (bl_al (bl0 _) _) _) _) _) hb | exact bl_tr (bl_dr (bl_al (bl_al (bl_al (bl_al (bl0 _) _) _) _) _)) hb | exact bl_tr (bl_al (bl_al (bl_al (bl_al (bl_al (bl0 _) _) _) _) _) _) hb | exact bl_tr (bl_dr (bl_al (bl_al (bl_al (bl_al (bl_al (bl0 _) _) _) _) _) _)) hb | exact bl_tr (bl_al (bl_al (bl_al (bl_al (bl_al (bl_al (bl0 _) _) _) _) _) _) _) hb | exact bl_tr (bl_dr (bl_al (bl_al (bl_al (bl_al (bl_al (bl_al (bl0 _) _) _) _) _) _) _)) hb | exact bl_tr (bl_dr (bl0 _)) hb
  replace hA := bl_tr hA hk
  have f0 := cell_later hb (v := .int .i64 X) (a := ⟨w.heap.size, 0, none⟩) (by simp [go_sem])
  have f1 := cell_later hb (v := .int .i64 Y) (a := ⟨w.heap.size, 1, none⟩) (by simp [go_sem])
  have f2 := cell_later hb (v := .slice a fs.length cap) (a := ⟨w.heap.size, 2, none⟩) (by simp [go_sem])
  have a0 := cell_later hb (v := .int .i64 P) (a := ⟨w.heap.size + 1, 0, none⟩) (by simp [go_sem])
  have a1 := cell_later hb (v := .int .i64 Q) (a := ⟨w.heap.size + 1, 1, none⟩) (by simp [go_sem])
  clear hb hk
  have zf0 := blk_lt f0
  have zf1 := blk_lt f1
  have zf2 := blk_lt f2
  have za0 := blk_lt a0
  have za1 := blk_lt a1
  rw [HN.out, ← HFZ.out] at hm
  simp only [World.size_alloc] at hb1 hh1
  go_wp2_with fail
  refine (rall_cells _ _ _ hmay).mono ?_
  rintro e w2 ⟨ac, capc, rfl, hrc, hb⟩
  have hk : Below w1.heap.size w1 w2 := by first | exact hb | exact bl_tr (bl_al (bl0 _) _) hb | exact bl_tr (bl_dr (bl_al (bl0 _) _)) hb | exact bl_tr (bl_al (bl_al (bl0 _) _) _) hb | exact bl_tr (bl_dr (bl_al (bl_al (bl0 _) _) _)) hb | exact bl_tr (bl_al (bl_al (bl_al (bl0 _) _) _) _) hb | exact bl_tr (bl_dr (bl_al (bl_al (bl_al (bl0 _) _) _) _)) hb | exact bl_tr (bl_al (bl_al (bl_al (bl_al (bl0 _) _) _) _) _) hb | exact bl_tr (bl_dr (bl_al (bl_al (bl_al (bl_al (bl0 _) _) _) _) _)) hb | exact bl_tr (bl_al (bl_al (bl_al (bl_al (bl_al (bl0 _) _) _) _) _) _) hb | exact bl_tr (bl_dr (bl_al (bl_al (bl_al (bl_al (bl_al (bl0 _) _) _) _) _) _)) hb | exact bl_tr (bl_al (bl_al (bl_al (bl_al (bl_al (bl_al (bl0 _) _) _) _) _) _) _) hb | exact bl_tr (bl_dr (bl_al (bl_al (bl_al (bl_al (bl_al (bl_al (bl0 _) _) _) _) _) _) _)) hb | exact bl_tr (bl_dr (bl0 _)) hb
  replace hA := bl_tr hA hk
  replace hm := hm.below hk
  replace f0 := cell_later hk f0
  replace f1 := cell_later hk f1
  replace f2 := cell_later hk f2
  replace a0 := cell_later hk a0
  replace a1 := cell_later hk a1
  clear hb hk
  have zf0 := blk_lt f0
  have zf1 := blk_lt f1
  have zf2 := blk_lt f2
  have za0 := blk_lt a0
  have za1 := blk_lt a1
  rw [HN.out] at hrc ⊢
  rw [HCS.out] at hrc
  obtain ⟨lm1, lm2⟩ := hm.lt
  have F0 := Lib.hid f0
  have F1 := Lib.hid f1
  have F2 := Lib.hid f2
  have A0 := Lib.hid a0
  have A1 := Lib.hid a1
  have hzw := blk_lt a0
  by_cases hN0 : N = 0
  · exfalso; have := area_bd hmay; have := HAREA.out; have := HN.out; omega
  obtain ⟨gb, go, rfl, _⟩ := hrc.cell (k := 0) (by rw [HCL.out]; omega)
  have HC := Lib.hid (fun (k : Nat) (c : Int × Int) (hk : cs[k]? = some c) => (by
    rcases hrc with e | ⟨b', o', e, h'⟩
    · rw [e] at hk; simp at hk
    · cases e; exact h' k c hk : w2.cell? ⟨gb, go + k * 2, none⟩ = some (.int .i64 c.1) ∧ w2.cell? ⟨gb, go + k * 2 + 1, none⟩ = some (.int .i64 c.2)))
  have hapart : ∀ (k : Nat) (c : Int × Int), cs[k]? = some c → gb ≠ h := fun k c hk e => by
    obtain ⟨q, _⟩ := HC.out k c hk
    rw [e] at q
    unfold World.cell? at q
    simp only [hm.2] at q
    simp only [List.getElem?_toArray, List.getElem?_map] at q
    cases hq : (fsOf N z0)[go + k * 2]? with
    | none => rw [hq] at q; simp at q
    | some v => rw [hq] at q; simp at q
  have HAP := Lib.hid hapart
  clear f0 f1 f2 a0 a1 hrc hapart
  go_wp2_with fail
  go_loopw [9] (fun i wr => ∃ k : Nat, k ≤ N ∧ i = .int .i64 k ∧ RefAt wr b h X Y (fsOf N ((cs.take k).foldl (visTo X fs r (P, Q)) z0)) ∧ Good X Y ((cs.take k).foldl (visTo X fs r (P, Q)) z0) ∧ w2.grownBy wr (some h)) (fun i _ => N - (intOf i).toNat)
  case atStart => exact ⟨0, Nat.zero_le _, rfl, hm, hg0, World.grownBy.refl _ _⟩
  case round =>
    obtain ⟨k, hk, rfl, hmr, hgr, hG⟩ := hrel
    have hk0 : (0 : Int) ≤ (k : Int) := by omega
    by_cases hlt : k < N
    · have hlt2 : (k : Int) < (N : Int) := by omega
      obtain ⟨⟨x, y⟩, hxy⟩ : ∃ c, cs[k]? = some c := ⟨_, List.getElem?_eq_getElem (by rw [HCL.out]; exact hlt)⟩
      have hgh := HAP.out k _ hxy
      obtain ⟨p0, p1⟩ := HC.out k _ hxy
      replace p0 := hG.cell p0 (by simp; exact fun e => hgh e)
      replace p1 := hG.cell p1 (by simp; exact fun e => hgh e)
      have f0 := hG.cell F0.out (by simp; omega)
      have f1 := hG.cell F1.out (by simp; omega)
      have f2 := hG.cell F2.out (by simp; omega)
      have a0 := hG.cell A0.out (by simp; omega)
      have a1 := hG.cell A1.out (by simp; omega)
      have hxi := HCI.out _ (List.mem_of_getElem? hxy)
      dsimp only at p0 p1 hxi
      obtain ⟨m, hmm⟩ : ∃ m, farN (P, Q) (x, y) = m := ⟨_, rfl⟩
      have hmx : max (apartI P x) (apartI Q y) = (m : Int) := by have := farN_eq (P, Q) (x, y); rw [hmm] at this; exact this.symm
      have HMX := Lib.hid hmx
      have HXI := Lib.hid hxi
      have HNX := Lib.hid (show (cs.take (k + 1)).foldl (visTo X fs r (P, Q)) z0 = if (m : Int) ≤ r then putAll X ((cs.take k).foldl (visTo X fs r (P, Q)) z0) (seenF X fs P Q x y m) else (cs.take k).foldl (visTo X fs r (P, Q)) z0 by
        rw [List.take_succ_eq_append_getElem (by rw [HCL.out]; exact hlt), List.foldl_append, List.foldl_cons, List.foldl_nil]
        have e1 : cs[k]'(by rw [HCL.out]; exact hlt) = (x, y) := by
          have := List.getElem?_eq_getElem (l := cs) (i := k) (by rw [HCL.out]; exact hlt)
          rw [this] at hxy
          exact Option.some.inj hxy
        rw [e1]
        unfold visTo
        rw [hmm])
      obtain ⟨bs, hbs⟩ : ∃ bs, (cs.take k).foldl (visTo X fs r (P, Q)) z0 = bs := ⟨_, rfl⟩
      rw [hbs] at HNX hmr hgr
      have HM := Lib.hid hmr
      have HG := Lib.hid hG
      clear hmx hxi hmm hbs hmr hG hxy
      go_upto_region 6 with fail
      refine (wpIn_wide (n := 11)).1 ?_
      have hD := bl_dr (bl0 wr)
      refine ordS_begin (S := (fun w' : World => w'.cell? ⟨w.heap.size + 1, 0, none⟩ = some (.int .i64 P) ∧ w'.cell? ⟨w.heap.size + 1, 1, none⟩ = some (.int .i64 Q) ∧ w'.cell? ⟨gb, go + k * 2, none⟩ = some (.int .i64 x) ∧ w'.cell? ⟨gb, go + k * 2 + 1, none⟩ = some (.int .i64 y) ∧ w'.cell? ⟨w.heap.size, 0, none⟩ = some (.int .i64 X) ∧ w'.cell? ⟨w.heap.size, 1, none⟩ = some (.int .i64 Y) ∧ w'.cell? ⟨w.heap.size, 2, none⟩ = some (.slice a fs.length cap))) (by kernel_rfl) ⟨cell_later hD a0, cell_later hD a1, cell_later hD p0, cell_later hD p1, cell_later hD f0, cell_later hD f1, cell_later hD f2⟩ (fun hH => ?_)
      first
        | (refine' ordS_take (i := 0) (oi := { dst := some 24, op := Op.load 37 (Operand.tmp 4), type := 37, pos := _, after := #[], guard := none }) (v := _) rfl (by kernel_rfl) (by kernel_rfl) (by kernel_rfl) (by kernel_rfl) (fun _ _ _ h => h) (by assumption) (Or.inl ⟨by rfl, ?hy1⟩) (fun _ => rfl) ?rest1
           case hy1 => (intro w hSw; (try dsimp only at hSw); go_simp; try with_reducible rfl))
        | (refine ordS_take (i := 0) (oi := { dst := some 24, op := Op.load 37 (Operand.tmp 4), type := 37, pos := _, after := #[], guard := none }) (v := undef) rfl (by kernel_rfl) (by kernel_rfl) (by kernel_rfl) (by kernel_rfl) (fun _ _ _ h => h) (by assumption) (Or.inr ⟨by rfl, rfl⟩) (fun _ => rfl) ?_)
      try simp only [Act.put, List.setIfInBounds_toArray, List.set_cons_zero, List.set_cons_succ]
      first
        | (refine' ordS_take (i := 1) (oi := { dst := some 25, op := Op.move (Operand.tmp 8), type := 27, pos := _, after := #[], guard := none }) (v := _) rfl (by kernel_rfl) (by kernel_rfl) (by kernel_rfl) (by kernel_rfl) (fun _ _ _ h => h) (by assumption) (Or.inl ⟨by rfl, ?hy2⟩) (fun _ => rfl) ?rest2
           case hy2 => (intro w hSw; (try dsimp only at hSw); go_simp; try with_reducible rfl))
        | (refine ordS_take (i := 1) (oi := { dst := some 25, op := Op.move (Operand.tmp 8), type := 27, pos := _, after := #[], guard := none }) (v := undef) rfl (by kernel_rfl) (by kernel_rfl) (by kernel_rfl) (by kernel_rfl) (fun _ _ _ h => h) (by assumption) (Or.inr ⟨by rfl, rfl⟩) (fun _ => rfl) ?_)
      try simp only [Act.put, List.setIfInBounds_toArray, List.set_cons_zero, List.set_cons_succ]
      first
        | (refine' ordS_take (i := 2) (oi := { dst := some 26, op := Op.move (Operand.tmp 9), type := 3, pos := _, after := #[], guard := none }) (v := _) rfl (by kernel_rfl) (by kernel_rfl) (by kernel_rfl) (by kernel_rfl) (fun _ _ _ h => h) (by assumption) (Or.inl ⟨by rfl, ?hy3⟩) (fun _ => rfl) ?rest3
           case hy3 => (intro w hSw; (try dsimp only at hSw); go_simp; try with_reducible rfl))
        | (refine ordS_take (i := 2) (oi := { dst := some 26, op := Op.move (Operand.tmp 9), type := 3, pos := _, after := #[], guard := none }) (v := undef) rfl (by kernel_rfl) (by kernel_rfl) (by kernel_rfl) (by kernel_rfl) (fun _ _ _ h => h) (by assumption) (Or.inr ⟨by rfl, rfl⟩) (fun _ => rfl) ?_)
      try simp only [Act.put, List.setIfInBounds_toArray, List.set_cons_zero, List.set_cons_succ]
      first
        | (refine' ordS_take (i := 3) (oi := { dst := some 27, op := Op.indexAddr 27 (Operand.tmp 25) (Operand.tmp 26), type := 0, pos := _, after := #[{ on := 1, ground := Ground.data }, { on := 2, ground := Ground.data }], guard := none }) (v := _) rfl (by kernel_rfl) (by kernel_rfl) (by kernel_rfl) (by kernel_rfl) (fun _ _ _ h => h) (by assumption) (Or.inl ⟨by rfl, ?hy4⟩) (fun _ => rfl) ?rest4
           case hy4 => (intro w hSw; (try dsimp only at hSw); go_simp; try with_reducible rfl))
        | (refine ordS_take (i := 3) (oi := { dst := some 27, op := Op.indexAddr 27 (Operand.tmp 25) (Operand.tmp 26), type := 0, pos := _, after := #[{ on := 1, ground := Ground.data }, { on := 2, ground := Ground.data }], guard := none }) (v := undef) rfl (by kernel_rfl) (by kernel_rfl) (by kernel_rfl) (by kernel_rfl) (fun _ _ _ h => h) (by assumption) (Or.inr ⟨by rfl, rfl⟩) (fun _ => rfl) ?_)
      try simp only [Act.put, List.setIfInBounds_toArray, List.set_cons_zero, List.set_cons_succ]
      first
        | (refine' ordS_take (i := 4) (oi := { dst := some 28, op := Op.load 37 (Operand.tmp 27), type := 37, pos := _, after := #[{ on := 3, ground := Ground.data }], guard := none }) (v := _) rfl (by kernel_rfl) (by kernel_rfl) (by kernel_rfl) (by kernel_rfl) (fun _ _ _ h => h) (by assumption) (Or.inl ⟨by rfl, ?hy5⟩) (fun _ => rfl) ?rest5
           case hy5 => (intro w hSw; (try dsimp only at hSw); go_simp; try with_reducible rfl))
        | (refine ordS_take (i := 4) (oi := { dst := some 28, op := Op.load 37 (Operand.tmp 27), type := 37, pos := _, after := #[{ on := 3, ground := Ground.data }], guard := none }) (v := undef) rfl (by kernel_rfl) (by kernel_rfl) (by kernel_rfl) (by kernel_rfl) (fun _ _ _ h => h) (by assumption) (Or.inr ⟨by rfl, rfl⟩) (fun _ => rfl) ?_)
      try simp only [Act.put, List.setIfInBounds_toArray, List.set_cons_zero, List.set_cons_succ]
      first
        | (refine' ordS_take (i := 6) (oi := { dst := some 30, op := Op.move (Operand.tmp 2), type := 3, pos := _, after := #[], guard := none }) (v := _) rfl (by kernel_rfl) (by kernel_rfl) (by kernel_rfl) (by kernel_rfl) (fun _ _ _ h => h) (by assumption) (Or.inl ⟨by rfl, ?hy6⟩) (fun _ => rfl) ?rest6
           case hy6 => (intro w hSw; (try dsimp only at hSw); go_simp; try with_reducible rfl))
        | (refine ordS_take (i := 6) (oi := { dst := some 30, op := Op.move (Operand.tmp 2), type := 3, pos := _, after := #[], guard := none }) (v := undef) rfl (by kernel_rfl) (by kernel_rfl) (by kernel_rfl) (by kernel_rfl) (fun _ _ _ h => h) (by assumption) (Or.inr ⟨by rfl, rfl⟩) (fun _ => rfl) ?_)
      try simp only [Act.put, List.setIfInBounds_toArray, List.set_cons_zero, List.set_cons_succ]
      refine ordS_one (i := 5) (o := { dst := some 29, op := Op.call { callee := Callee.value (Operand.func 71), args := #[Operand.tmp 24, Operand.tmp 28], argTypes := #[37, 37] }, type := 3, pos := _, after := #[{ on := 0, ground := Ground.data }, { on := 4, ground := Ground.data }], guard := none }) (by kernel_rfl) rfl (by rfl) (fun K hK => ?_)
      go_simp
      refine ⟨trivial, ?_⟩
      with_reducible refine (callsIn_wide.2 (rfar_any P Q x y _ (in_plain HI.out) (in_plain HXI.out))).mono ?_
      rintro e w8 ⟨rfl, hb8⟩
      rw [HMX.out]
      have hb8' := bl_tr hD hb8
      replace a0 := cell_later hb8' a0
      replace a1 := cell_later hb8' a1
      replace p0 := cell_later hb8' p0
      replace p1 := cell_later hb8' p1
      replace f0 := cell_later hb8' f0
      replace f1 := cell_later hb8' f1
      replace f2 := cell_later hb8' f2
      have hS8 : (fun w' : World => w'.cell? ⟨w.heap.size + 1, 0, none⟩ = some (.int .i64 P) ∧ w'.cell? ⟨w.heap.size + 1, 1, none⟩ = some (.int .i64 Q) ∧ w'.cell? ⟨gb, go + k * 2, none⟩ = some (.int .i64 x) ∧ w'.cell? ⟨gb, go + k * 2 + 1, none⟩ = some (.int .i64 y) ∧ w'.cell? ⟨w.heap.size, 0, none⟩ = some (.int .i64 X) ∧ w'.cell? ⟨w.heap.size, 1, none⟩ = some (.int .i64 Y) ∧ w'.cell? ⟨w.heap.size, 2, none⟩ = some (.slice a fs.length cap)) w8 := ⟨a0, a1, p0, p1, f0, f1, f2⟩
      have HM8 := Lib.hid (HM.out.below hb8')
      have HG8 := Lib.hid (HG.out.trans (grown_weak (grown_of_below hb8') _))
      refine hK _ _ hS8 ?_
      clear hK K hH hb8 hD HM HG
      try simp only [Act.put, List.setIfInBounds_toArray, List.set_cons_zero, List.set_cons_succ]
      first
        | (refine' ordS_take (i := 7) (oi := { dst := some 31, op := Op.binOp BinOp.leq 3 (Operand.tmp 29) (Operand.tmp 30) 3, type := 4, pos := _, after := #[{ on := 5, ground := Ground.data }, { on := 6, ground := Ground.data }], guard := none }) (v := _) rfl (by kernel_rfl) (by kernel_rfl) (by kernel_rfl) (by kernel_rfl) (fun _ _ _ h => h) (by assumption) (Or.inl ⟨by rfl, ?hy7⟩) (fun _ => rfl) ?rest7
           case hy7 => (intro w hSw; (try dsimp only at hSw); go_simp; try with_reducible rfl))
        | (refine ordS_take (i := 7) (oi := { dst := some 31, op := Op.binOp BinOp.leq 3 (Operand.tmp 29) (Operand.tmp 30) 3, type := 4, pos := _, after := #[{ on := 5, ground := Ground.data }, { on := 6, ground := Ground.data }], guard := none }) (v := undef) rfl (by kernel_rfl) (by kernel_rfl) (by kernel_rfl) (by kernel_rfl) (fun _ _ _ h => h) (by assumption) (Or.inr ⟨by rfl, rfl⟩) (fun _ => rfl) ?_)
      try simp only [Act.put, List.setIfInBounds_toArray, List.set_cons_zero, List.set_cons_succ]
      refine ordS_done (by kernel_rfl) ?_
      clear hS8 hb8'
      have hw8 : Below w.heap.size w w8 := hA.grown HG8.out hA.size (fun j e => by cases e; omega)
      by_cases hfar : (m : Int) ≤ r
      · rw [if_pos hfar] at HNX
        have hin' : ∀ z ∈ seenF X fs P Q x y m, inB X Y z.1 z.2 = true := by
          have := seen_in (zs := fs) (e := (P, Q)) (q := (x, y)) HI.out HXI.out
          have e : farN (P, Q) (x, y) = m := by have e0 : (farN (P, Q) (x, y) : Int) = m := (farN_eq (P, Q) (x, y)).trans HMX.out; omega
          rw [e] at this
          exact this
        have hsl := seen_len X fs P Q x y m
        have hm16 : m ≤ 16 := by omega
        have HIN := Lib.hid hin'
        go_upto_region 7 with fail
        refine (wpIn_wide (n := 11)).1 ?_
        have hD := bl_dr (bl0 w8)
        refine ordS_begin (S := (fun w' : World => w'.cell? ⟨w.heap.size + 1, 0, none⟩ = some (.int .i64 P) ∧ w'.cell? ⟨w.heap.size + 1, 1, none⟩ = some (.int .i64 Q) ∧ w'.cell? ⟨gb, go + k * 2, none⟩ = some (.int .i64 x) ∧ w'.cell? ⟨gb, go + k * 2 + 1, none⟩ = some (.int .i64 y) ∧ w'.cell? ⟨w.heap.size, 0, none⟩ = some (.int .i64 X) ∧ w'.cell? ⟨w.heap.size, 1, none⟩ = some (.int .i64 Y) ∧ w'.cell? ⟨w.heap.size, 2, none⟩ = some (.slice a fs.length cap))) (by kernel_rfl) ⟨cell_later hD a0, cell_later hD a1, cell_later hD p0, cell_later hD p1, cell_later hD f0, cell_later hD f1, cell_later hD f2⟩ (fun hH => ?_)
        first
          | (refine' ordS_take (i := 0) (oi := { dst := some 32, op := Op.load 26 (Operand.tmp 3), type := 26, pos := _, after := #[], guard := none }) (v := _) rfl (by kernel_rfl) (by kernel_rfl) (by kernel_rfl) (by kernel_rfl) (fun _ _ _ h => h) (by assumption) (Or.inl ⟨by rfl, ?hy8⟩) (fun _ => rfl) ?rest8
             case hy8 => (intro w hSw; (try dsimp only at hSw); go_simp; try with_reducible rfl))
          | (refine ordS_take (i := 0) (oi := { dst := some 32, op := Op.load 26 (Operand.tmp 3), type := 26, pos := _, after := #[], guard := none }) (v := undef) rfl (by kernel_rfl) (by kernel_rfl) (by kernel_rfl) (by kernel_rfl) (fun _ _ _ h => h) (by assumption) (Or.inr ⟨by rfl, rfl⟩) (fun _ => rfl) ?_)
        try simp only [Act.put, List.setIfInBounds_toArray, List.set_cons_zero, List.set_cons_succ]
        first
          | (refine' ordS_take (i := 1) (oi := { dst := some 33, op := Op.load 37 (Operand.tmp 4), type := 37, pos := _, after := #[], guard := none }) (v := _) rfl (by kernel_rfl) (by kernel_rfl) (by kernel_rfl) (by kernel_rfl) (fun _ _ _ h => h) (by assumption) (Or.inl ⟨by rfl, ?hy9⟩) (fun _ => rfl) ?rest9
             case hy9 => (intro w hSw; (try dsimp only at hSw); go_simp; try with_reducible rfl))
          | (refine ordS_take (i := 1) (oi := { dst := some 33, op := Op.load 37 (Operand.tmp 4), type := 37, pos := _, after := #[], guard := none }) (v := undef) rfl (by kernel_rfl) (by kernel_rfl) (by kernel_rfl) (by kernel_rfl) (fun _ _ _ h => h) (by assumption) (Or.inr ⟨by rfl, rfl⟩) (fun _ => rfl) ?_)
        try simp only [Act.put, List.setIfInBounds_toArray, List.set_cons_zero, List.set_cons_succ]
        first
          | (refine' ordS_take (i := 2) (oi := { dst := some 34, op := Op.move (Operand.tmp 8), type := 27, pos := _, after := #[], guard := none }) (v := _) rfl (by kernel_rfl) (by kernel_rfl) (by kernel_rfl) (by kernel_rfl) (fun _ _ _ h => h) (by assumption) (Or.inl ⟨by rfl, ?hy10⟩) (fun _ => rfl) ?rest10
             case hy10 => (intro w hSw; (try dsimp only at hSw); go_simp; try with_reducible rfl))
          | (refine ordS_take (i := 2) (oi := { dst := some 34, op := Op.move (Operand.tmp 8), type := 27, pos := _, after := #[], guard := none }) (v := undef) rfl (by kernel_rfl) (by kernel_rfl) (by kernel_rfl) (by kernel_rfl) (fun _ _ _ h => h) (by assumption) (Or.inr ⟨by rfl, rfl⟩) (fun _ => rfl) ?_)
        try simp only [Act.put, List.setIfInBounds_toArray, List.set_cons_zero, List.set_cons_succ]
        first
          | (refine' ordS_take (i := 3) (oi := { dst := some 35, op := Op.move (Operand.tmp 9), type := 3, pos := _, after := #[], guard := none }) (v := _) rfl (by kernel_rfl) (by kernel_rfl) (by kernel_rfl) (by kernel_rfl) (fun _ _ _ h => h) (by assumption) (Or.inl ⟨by rfl, ?hy11⟩) (fun _ => rfl) ?rest11
             case hy11 => (intro w hSw; (try dsimp only at hSw); go_simp; try with_reducible rfl))
          | (refine ordS_take (i := 3) (oi := { dst := some 35, op := Op.move (Operand.tmp 9), type := 3, pos := _, after := #[], guard := none }) (v := undef) rfl (by kernel_rfl) (by kernel_rfl) (by kernel_rfl) (by kernel_rfl) (fun _ _ _ h => h) (by assumption) (Or.inr ⟨by rfl, rfl⟩) (fun _ => rfl) ?_)
        try simp only [Act.put, List.setIfInBounds_toArray, List.set_cons_zero, List.set_cons_succ]
        first
          | (refine' ordS_take (i := 4) (oi := { dst := some 36, op := Op.indexAddr 27 (Operand.tmp 34) (Operand.tmp 35), type := 0, pos := _, after := #[{ on := 2, ground := Ground.data }, { on := 3, ground := Ground.data }], guard := none }) (v := _) rfl (by kernel_rfl) (by kernel_rfl) (by kernel_rfl) (by kernel_rfl) (fun _ _ _ h => h) (by assumption) (Or.inl ⟨by rfl, ?hy12⟩) (fun _ => rfl) ?rest12
             case hy12 => (intro w hSw; (try dsimp only at hSw); go_simp; try with_reducible rfl))
          | (refine ordS_take (i := 4) (oi := { dst := some 36, op := Op.indexAddr 27 (Operand.tmp 34) (Operand.tmp 35), type := 0, pos := _, after := #[{ on := 2, ground := Ground.data }, { on := 3, ground := Ground.data }], guard := none }) (v := undef) rfl (by kernel_rfl) (by kernel_rfl) (by kernel_rfl) (by kernel_rfl) (fun _ _ _ h => h) (by assumption) (Or.inr ⟨by rfl, rfl⟩) (fun _ => rfl) ?_)
        try simp only [Act.put, List.setIfInBounds_toArray, List.set_cons_zero, List.set_cons_succ]
        first
          | (refine' ordS_take (i := 5) (oi := { dst := some 37, op := Op.load 37 (Operand.tmp 36), type := 37, pos := _, after := #[{ on := 4, ground := Ground.data }], guard := none }) (v := _) rfl (by kernel_rfl) (by kernel_rfl) (by kernel_rfl) (by kernel_rfl) (fun _ _ _ h => h) (by assumption) (Or.inl ⟨by rfl, ?hy13⟩) (fun _ => rfl) ?rest13
             case hy13 => (intro w hSw; (try dsimp only at hSw); go_simp; try with_reducible rfl))
          | (refine ordS_take (i := 5) (oi := { dst := some 37, op := Op.load 37 (Operand.tmp 36), type := 37, pos := _, after := #[{ on := 4, ground := Ground.data }], guard := none }) (v := undef) rfl (by kernel_rfl) (by kernel_rfl) (by kernel_rfl) (by kernel_rfl) (fun _ _ _ h => h) (by assumption) (Or.inr ⟨by rfl, rfl⟩) (fun _ => rfl) ?_)
        try simp only [Act.put, List.setIfInBounds_toArray, List.set_cons_zero, List.set_cons_succ]
        refine ordS_one (i := 6) (o := { dst := some 38, op := Op.call { callee := Callee.value (Operand.func 72), args := #[Operand.tmp 32, Operand.tmp 33, Operand.tmp 37], argTypes := #[26, 37, 37] }, type := 27, pos := _, after := #[{ on := 0, ground := Ground.data }, { on := 1, ground := Ground.data }, { on := 5, ground := Ground.data }], guard := none }) (by kernel_rfl) rfl (by rfl) (fun K hK => ?_)
        go_simp
        refine ⟨trivial, ?_⟩
        with_reducible refine (callsIn_wide.2 (rwalk_any X Y a cap fs P Q x y m _ (hr.below (bl_tr hw8 hD)) hu HI.out HXI.out HAREA.out HMX.out)).mono ?_
        rintro e w9 ⟨b2, cap2, rfl, hrd, hb9⟩
        have hb9' := bl_tr hD hb9
        have hS9 : (fun w' : World => w'.cell? ⟨w.heap.size + 1, 0, none⟩ = some (.int .i64 P) ∧ w'.cell? ⟨w.heap.size + 1, 1, none⟩ = some (.int .i64 Q) ∧ w'.cell? ⟨gb, go + k * 2, none⟩ = some (.int .i64 x) ∧ w'.cell? ⟨gb, go + k * 2 + 1, none⟩ = some (.int .i64 y) ∧ w'.cell? ⟨w.heap.size, 0, none⟩ = some (.int .i64 X) ∧ w'.cell? ⟨w.heap.size, 1, none⟩ = some (.int .i64 Y) ∧ w'.cell? ⟨w.heap.size, 2, none⟩ = some (.slice a fs.length cap)) w9 := ⟨cell_later hb9' a0, cell_later hb9' a1, cell_later hb9' p0, cell_later hb9' p1, cell_later hb9' f0, cell_later hb9' f1, cell_later hb9' f2⟩
        have HM9 := Lib.hid (HM8.out.below hb9')
        have HG9 := Lib.hid (HG8.out.trans (grown_weak (grown_of_below hb9') _))
        refine hK _ _ hS9 ?_
        clear hK K hH hb9 hD
        try simp only [Act.put, List.setIfInBounds_toArray, List.set_cons_zero, List.set_cons_succ]
        first
          | (refine' ordS_take (i := 7) (oi := { dst := some 10, op := Op.assign (Operand.tmp 38), type := 27, pos := _, after := #[{ on := 6, ground := Ground.data }, { on := 6, ground := Ground.chain }, { on := 0, ground := Ground.phase }, { on := 1, ground := Ground.phase }, { on := 2, ground := Ground.phase }, { on := 3, ground := Ground.phase }, { on := 4, ground := Ground.phase }, { on := 5, ground := Ground.phase }, { on := 6, ground := Ground.phase }], guard := none }) (v := _) rfl (by kernel_rfl) (by kernel_rfl) (by kernel_rfl) (by kernel_rfl) (fun _ _ _ h => h) (by assumption) (Or.inl ⟨by rfl, ?hy14⟩) (fun _ => rfl) ?rest14
             case hy14 => (intro w hSw; (try dsimp only at hSw); go_simp; try with_reducible rfl))
          | (refine ordS_take (i := 7) (oi := { dst := some 10, op := Op.assign (Operand.tmp 38), type := 27, pos := _, after := #[{ on := 6, ground := Ground.data }, { on := 6, ground := Ground.chain }, { on := 0, ground := Ground.phase }, { on := 1, ground := Ground.phase }, { on := 2, ground := Ground.phase }, { on := 3, ground := Ground.phase }, { on := 4, ground := Ground.phase }, { on := 5, ground := Ground.phase }, { on := 6, ground := Ground.phase }], guard := none }) (v := undef) rfl (by kernel_rfl) (by kernel_rfl) (by kernel_rfl) (by kernel_rfl) (fun _ _ _ h => h) (by assumption) (Or.inr ⟨by rfl, rfl⟩) (fun _ => rfl) ?_)
        try simp only [Act.put, List.setIfInBounds_toArray, List.set_cons_zero, List.set_cons_succ]
        refine ordS_done (by kernel_rfl) ?_
        obtain ⟨sl, hs⟩ : ∃ sl, seenF X fs P Q x y m = sl := ⟨_, rfl⟩
        rw [hs] at HNX HIN hrd hsl
        rw [hs]
        have hg9 := hgr
        have hrda := rowC_apartR hrd HM9.out
        have HRD := Lib.hid hrd
        have HSL := Lib.hid hsl
        obtain ⟨M, hM⟩ : ∃ M, sl.length = M := ⟨_, rfl⟩
        have HM' := Lib.hid hM
        have hM16 : M ≤ 17 := by omega
        rw [hM]
        clear hS9 hb9' hM hs hrd hsl hin' HM8 HG8 hw8 a0 a1 p0 p1 f0 f1 f2 hfar
        go_wp2_with fail
        go_loopw [11] (fun i wr2 => ∃ j : Nat, j ≤ M ∧ i = .int .i64 j ∧ RefAt wr2 b h X Y (fsOf N (putAll X bs (sl.take j))) ∧ w9.grownBy wr2 (some h)) (fun i _ => M - (intOf i).toNat)
        case atStart => exact ⟨0, Nat.zero_le _, rfl, HM9.out, World.grownBy.refl _ _⟩
        case round =>
          obtain ⟨j, hj, rfl, hm2, hg2⟩ := hrel
          have hj0 : (0 : Int) ≤ (j : Int) := by omega
          by_cases hlj : j < M
          · have hlj2 : (j : Int) < (M : Int) := by omega
            have hjs : j < sl.length := by rw [HM'.out]; exact hlj
            obtain ⟨g3, o3, rfl, r0, r1⟩ := HRD.out.cell hjs
            have hg3 := hrda g3 o3 (by intro e; rw [e] at hjs; simp at hjs) rfl
            replace r0 := hg2.cell r0 (by simp; exact fun e => hg3 e)
            replace r1 := hg2.cell r1 (by simp; exact fun e => hg3 e)
            have zr := blk_lt r0
            have hzi := HIN.out _ (List.getElem_mem hjs)
            have hgp := hgr.putAll (sl.take j) (fun z hz => HIN.out z (List.mem_of_mem_take hz))
            have HPS := Lib.hid (putAll_succ X bs sl j hjs)
            obtain ⟨u, hu1⟩ : ∃ u, sl[j].1 = u := ⟨_, rfl⟩
            obtain ⟨v, hv1⟩ : ∃ v, sl[j].2 = v := ⟨_, rfl⟩
            rw [hu1] at r0 hzi HPS
            rw [hv1] at r1 hzi HPS
            have HM2 := Lib.hid hm2
            have HG2 := Lib.hid hg2
            have HGP := Lib.hid hgp
            clear hu1 hv1 hm2 hg2 hgp
            go_wp2_with fail
            refine (rset_yes b h X Y u v true _ _ HM2.out hne (by rw [fsOf_len, ← HN.out, mul_in hmay]) hzi).mono ?_
            rintro e w10 ⟨rfl, hm10, hg10⟩
            rw [← fsOf_set true (HGP.out.idx hzi), ← HPS.out] at hm10
            have HM10 := Lib.hid hm10
            have HG10 := Lib.hid (HG2.out.trans hg10)
            clear hm10 hg10 r0 r1
            go_wp2
            go_roundw
            case rel => exact ⟨j + 1, by omega, by go_num, HM10.out, HG10.out⟩
            case measure => simp [intOf]; omega
          · obtain rfl : j = M := by omega
            rw [List.take_of_length_le (by rw [HM'.out]; exact Nat.le_refl _), ← HNX.out] at hm2
            have HM2 := Lib.hid hm2
            have hgn := hgr.putAll sl HIN.out
            rw [← HNX.out] at hgn
            have HGN := Lib.hid hgn
            have HG2 := Lib.hid (HG9.out.trans hg2)
            clear hm2 hg2 hgn
            go_wp2
            go_roundw
            case rel => exact ⟨k + 1, by omega, by go_num, HM2.out, HGN.out, HG2.out⟩
            case measure => simp [intOf]; omega
      · rw [if_neg hfar] at HNX
        have hgn := hgr
        rw [← HNX.out] at hgn
        have hm8 := HM8.out
        rw [← HNX.out] at hm8
        have HM9 := Lib.hid hm8
        have HGN := Lib.hid hgn
        clear hm8 hgn
        go_wp2
        go_roundw
        case rel => exact ⟨k + 1, by omega, by go_num, HM9.out, HGN.out, HG8.out⟩
        case measure => simp [intOf]; omega
    · obtain rfl : k = N := by omega
      have HALL := Lib.hid (show (cs.take k).foldl (visTo X fs r (P, Q)) z0 = allB X Y fs r [(P, Q)] by rw [← HVIS.out, List.take_of_length_le (by rw [HCL.out]; exact Nat.le_refl _)])
      rw [HALL.out] at hmr
      have hF := hA.grown hG hA.size (fun j e => by cases e; omega)
      clear hG hA
      go_wp2
      go_ret
      exact ⟨b, h, rfl, hmr, by omega, by omega, hne, hF⟩
end Go.Proofs.Ythebiibiapjdiaa

/- The document's answer for sights: All. -/
namespace Go.Proofs.Ythebiibiapjdiaa
open Go.RowKit

/-- What one cell to see from adds. -/
def addTo (X Y : Int) (fs : List Int) (r : Int) (bs : List Nat) (e : Int × Int) : List Nat := putAll X bs (cellsM X Y (allB X Y fs r [e]))
theorem add_iff {X Y r : Int} {fs : List Int} (hm : mayB X Y = true) (h0 : 0 ≤ r) (h1 : r ≤ 16) (c : Int × Int) : ∀ (l : List (Int × Int)) (bs : List Nat), (∀ q ∈ l, inB X Y q.1 q.2 = true) → Good X Y bs → Good X Y (l.foldl (addTo X Y fs r) bs) ∧ (inM X Y (l.foldl (addTo X Y fs r) bs) c = true ↔ inM X Y bs c = true ∨ ∃ e ∈ l, Sees X Y fs r e c)
  | [], bs, _, g => by simp [g]
  | q :: l, bs, h, g => by
    have hq : ∀ z ∈ [q], inB X Y z.1 z.2 = true := fun z hz => by simp at hz; rw [hz]; exact h q (by simp)
    have gq := allB_good (r := r) (fs := fs) hm hq
    have hci : ∀ z ∈ cellsM X Y (allB X Y fs r [q]), inB X Y z.1 z.2 = true := fun z hz => inM_in ((cellsM_iff gq z).1 hz)
    obtain ⟨g2, ih⟩ := add_iff (r := r) (fs := fs) hm h0 h1 c l (addTo X Y fs r bs q) (fun y hy => h y (by simp [hy])) (g.putAll _ hci)
    refine ⟨g2, ?_⟩
    rw [List.foldl_cons, ih]
    have e2 : inM X Y (addTo X Y fs r bs q) c = true ↔ inM X Y bs c = true ∨ Sees X Y fs r q c := by
      unfold addTo
      rw [inM_putAll g hci, cellsM_iff gq, allB_iff hm hq h0 h1]
      simp
    rw [e2]
    simp [or_assoc]
theorem add_all {X Y r : Int} {fs : List Int} {zs : List (Int × Int)} (hm : mayB X Y = true) (h : ∀ z ∈ zs, inB X Y z.1 z.2 = true) (h0 : 0 ≤ r) (h1 : r ≤ 16) : zs.foldl (addTo X Y fs r) (List.replicate ((X * Y + 7) / 8).toNat 0) = allB X Y fs r zs := by
  have g := good_zero0 hm
  refine set_ext (add_iff hm h0 h1 (0, 0) _ _ h g).1 (allB_good hm h) fun c => ?_
  rw [(add_iff hm h0 h1 c _ _ h g).2, allB_iff hm h h0 h1, inM_zero]
  simp

set_option maxRecDepth 100000 in
set_option maxHeartbeats 16000000 in
theorem rall_any (X Y r : Int) (a a2 : Option Addr) (cap c2 : Nat) (fs : List Int) (zs : List (Int × Int)) (w : World) (hr : RowH w a fs) (hu : AllH fs) (hz : RowC w a2 zs) (hl : zs.length ≤ 1048576) (hmay : mayB X Y = true) (harea : (fs.length : Int) = X * Y) (hi : ∀ z ∈ zs, inB X Y z.1 z.2 = true) (h0 : 0 ≤ r) (h1 : r ≤ 16) :
    Calls Try.prog 20 #[.agg #[.int .i64 X, .int .i64 Y, .slice a fs.length cap], .slice a2 zs.length c2, .int .i64 r] w fun e w' => ∃ b h, e = .returned (.pointer (some ⟨b, 0, none⟩)) ∧
      RefAt w' b h X Y (fsOf (X * Y).toNat (allB X Y fs r zs)) ∧ w.heap.size ≤ b ∧ w.heap.size ≤ h ∧ b ≠ h ∧ Below w.heap.size w w' := by
  have hA := bl0 w
  have hlI : (zs.length : Int) ≤ 1048576 := by omega
  have HI := Lib.hid hi
  have HAREA := Lib.hid harea
  have HALL := Lib.hid (add_all (fs := fs) hmay hi h0 h1)
  obtain ⟨z0, hz0⟩ : ∃ z0, List.replicate ((X * Y + 7) / 8).toNat 0 = z0 := ⟨_, rfl⟩
  have hg0 := good_zero0 hmay
  obtain ⟨N, hN⟩ : ∃ N, (X * Y).toNat = N := ⟨_, rfl⟩
  have HN := Lib.hid hN
  have hfz : fsOf N z0 = List.replicate N false := by rw [← hz0]; exact fsOf_zero _ _
  have HFZ := Lib.hid hfz
  rw [hz0] at hg0 HALL
  rw [hN]
  have hN6 : N ≤ 65536 := by have := area_bd hmay; omega
  have hX1 : 1 ≤ X := (mayB_iff.1 hmay).1
  clear hi harea hz0 hN hfz
  go_enter Try.func20, Try.ntmps20
  go_wp2_with fail
  refine (rnew_yes _ _ _ hmay).mono ?_
  rintro e w1 ⟨b, h, rfl, hm, hb1, hh1, hne, hb⟩
  have hk : Below w.heap.size w w1 := by first | exact hb | exact bl_tr (bl_al (bl0 _) _) hb | exact bl_tr (bl_dr (bl_al (bl0 _) _)) hb | exact bl_tr (bl_al (bl_al (bl0 _) _) _) hb | exact bl_tr (bl_dr (bl_al (bl_al (bl0 _) _) _)) hb | exact bl_tr (bl_al (bl_al (bl_al (bl0 _) _) _) _) hb | exact bl_tr (bl_dr (bl_al (bl_al (bl_al (bl0 _) _) _) _)) hb | exact bl_tr (bl_al (bl_al (bl_al (bl_al (bl0 _) _) _) _) _) hb | exact bl_tr (bl_dr (bl_al (bl_al (bl_al (bl_al (bl0 _) _) _) _) _)) hb | exact bl_tr (bl_al (bl_al (bl_al (bl_al (bl_al (bl0 _) _) _) _) _) _) hb | exact bl_tr (bl_dr (bl_al (bl_al (bl_al (bl_al (bl_al (bl0 _) _) _) _) _) _)) hb | exact bl_tr (bl_al (bl_al (bl_al (bl_al (bl_al (bl_al (bl0 _) _) _) _) _) _) _) hb | exact bl_tr (bl_dr (bl_al (bl_al (bl_al (bl_al (bl_al (bl_al (bl0 _) _) _) _) _) _) _)) hb | exact bl_tr (bl_dr (bl0 _)) hb
  replace hA := bl_tr hA hk
  have f0 := cell_later hb (v := .int .i64 X) (a := ⟨w.heap.size, 0, none⟩) (by simp [go_sem])
  have f1 := cell_later hb (v := .int .i64 Y) (a := ⟨w.heap.size, 1, none⟩) (by simp [go_sem])
  have f2 := cell_later hb (v := .slice a fs.length cap) (a := ⟨w.heap.size, 2, none⟩) (by simp [go_sem])
  clear hb hk
  have zf0 := blk_lt f0
  have zf1 := blk_lt f1
  have zf2 := blk_lt f2
  rw [HN.out, ← HFZ.out] at hm
  simp only [World.size_alloc] at hb1 hh1
  obtain ⟨lm1, lm2⟩ := hm.lt
  have F0 := Lib.hid f0
  have F1 := Lib.hid f1
  have F2 := Lib.hid f2
  have hzw := blk_lt f0
  have hz1 := hz.below hA
  have hap := rowC_apartR hz1 hm
  have HZ1 := Lib.hid hz1
  go_wp2_with fail
  clear f0 f1 f2 hz1
  go_loopw [8] (fun i wr => ∃ k : Nat, k ≤ zs.length ∧ i = .int .i64 k ∧ RefAt wr b h X Y (fsOf N ((zs.take k).foldl (addTo X Y fs r) z0)) ∧ Good X Y ((zs.take k).foldl (addTo X Y fs r) z0) ∧ w1.grownBy wr (some h)) (fun i _ => zs.length - (intOf i).toNat)
  case atStart => exact ⟨0, Nat.zero_le _, rfl, hm, hg0, World.grownBy.refl _ _⟩
  case round =>
    obtain ⟨k, hk, rfl, hmr, hgr, hG⟩ := hrel
    have hk0 : (0 : Int) ≤ (k : Int) := by omega
    by_cases hlt : k < zs.length
    · have hlt2 : (k : Int) < (zs.length : Int) := by omega
      obtain ⟨gz, oz, rfl, p0, p1⟩ := HZ1.out.cell hlt
      have hgh := hap gz oz (by intro e; rw [e] at hlt; simp at hlt) rfl
      replace p0 := hG.cell p0 (by simp; exact fun e => hgh e)
      replace p1 := hG.cell p1 (by simp; exact fun e => hgh e)
      have f0 := hG.cell F0.out (by simp; omega)
      have f1 := hG.cell F1.out (by simp; omega)
      have f2 := hG.cell F2.out (by simp; omega)
      have hxi := HI.out _ (List.getElem_mem hlt)
      have HNX := Lib.hid (show (zs.take (k + 1)).foldl (addTo X Y fs r) z0 = addTo X Y fs r ((zs.take k).foldl (addTo X Y fs r) z0) zs[k] by
        rw [List.take_succ_eq_append_getElem hlt, List.foldl_append, List.foldl_cons, List.foldl_nil])
      obtain ⟨x, hx⟩ : ∃ x, zs[k].1 = x := ⟨_, rfl⟩
      obtain ⟨y, hy⟩ : ∃ y, zs[k].2 = y := ⟨_, rfl⟩
      have hxy : zs[k] = (x, y) := Prod.ext hx hy
      rw [hx] at p0 hxi
      rw [hy] at p1 hxi
      rw [hxy] at HNX
      obtain ⟨bs, hbs⟩ : ∃ bs, (zs.take k).foldl (addTo X Y fs r) z0 = bs := ⟨_, rfl⟩
      rw [hbs] at HNX hmr hgr
      have HXI := Lib.hid hxi
      have HM := Lib.hid hmr
      have HG := Lib.hid hG
      have hwr := hA.grown hG hA.size (fun j e => by cases e; omega)
      have hgq := allB_good (X := X) (Y := Y) (r := r) (fs := fs) (zs := [(x, y)]) hmay (fun z hz => by simp at hz; rw [hz]; exact HXI.out)
      have hcs := cells_same hgq
      rw [HN.out] at hcs
      obtain ⟨vs, hvs⟩ : ∃ vs, allB X Y fs r [(x, y)] = vs := ⟨_, rfl⟩
      unfold addTo at HNX
      rw [hvs] at HNX hgq hcs
      have HVS := Lib.hid hvs
      have HCS := Lib.hid hcs
      clear hx hy hxy hbs hmr hG hxi hvs hcs
      go_upto_region 5 with fail
      refine (wpIn_wide (n := 11)).1 ?_
      have hD := bl_dr (bl0 wr)
      refine ordS_begin (S := (fun w' : World => w'.cell? ⟨gz, oz + k * 2, none⟩ = some (.int .i64 x) ∧ w'.cell? ⟨gz, oz + k * 2 + 1, none⟩ = some (.int .i64 y) ∧ w'.cell? ⟨w.heap.size, 0, none⟩ = some (.int .i64 X) ∧ w'.cell? ⟨w.heap.size, 1, none⟩ = some (.int .i64 Y) ∧ w'.cell? ⟨w.heap.size, 2, none⟩ = some (.slice a fs.length cap))) (by kernel_rfl) ⟨cell_later hD p0, cell_later hD p1, cell_later hD f0, cell_later hD f1, cell_later hD f2⟩ (fun hH => ?_)
      first
        | (refine' ordS_take (i := 0) (oi := { dst := some 20, op := Op.load 26 (Operand.tmp 3), type := 26, pos := _, after := #[], guard := none }) (v := _) rfl (by kernel_rfl) (by kernel_rfl) (by kernel_rfl) (by kernel_rfl) (fun _ _ _ h => h) (by assumption) (Or.inl ⟨by rfl, ?hy1⟩) (fun _ => rfl) ?rest1
           case hy1 => (intro w hSw; (try dsimp only at hSw); go_simp; try with_reducible rfl))
        | (refine ordS_take (i := 0) (oi := { dst := some 20, op := Op.load 26 (Operand.tmp 3), type := 26, pos := _, after := #[], guard := none }) (v := undef) rfl (by kernel_rfl) (by kernel_rfl) (by kernel_rfl) (by kernel_rfl) (fun _ _ _ h => h) (by assumption) (Or.inr ⟨by rfl, rfl⟩) (fun _ => rfl) ?_)
      try simp only [Act.put, List.setIfInBounds_toArray, List.set_cons_zero, List.set_cons_succ]
      first
        | (refine' ordS_take (i := 1) (oi := { dst := some 21, op := Op.move (Operand.tmp 1), type := 27, pos := _, after := #[], guard := none }) (v := _) rfl (by kernel_rfl) (by kernel_rfl) (by kernel_rfl) (by kernel_rfl) (fun _ _ _ h => h) (by assumption) (Or.inl ⟨by rfl, ?hy2⟩) (fun _ => rfl) ?rest2
           case hy2 => (intro w hSw; (try dsimp only at hSw); go_simp; try with_reducible rfl))
        | (refine ordS_take (i := 1) (oi := { dst := some 21, op := Op.move (Operand.tmp 1), type := 27, pos := _, after := #[], guard := none }) (v := undef) rfl (by kernel_rfl) (by kernel_rfl) (by kernel_rfl) (by kernel_rfl) (fun _ _ _ h => h) (by assumption) (Or.inr ⟨by rfl, rfl⟩) (fun _ => rfl) ?_)
      try simp only [Act.put, List.setIfInBounds_toArray, List.set_cons_zero, List.set_cons_succ]
      first
        | (refine' ordS_take (i := 2) (oi := { dst := some 22, op := Op.move (Operand.tmp 8), type := 3, pos := _, after := #[], guard := none }) (v := _) rfl (by kernel_rfl) (by kernel_rfl) (by kernel_rfl) (by kernel_rfl) (fun _ _ _ h => h) (by assumption) (Or.inl ⟨by rfl, ?hy3⟩) (fun _ => rfl) ?rest3
           case hy3 => (intro w hSw; (try dsimp only at hSw); go_simp; try with_reducible rfl))
        | (refine ordS_take (i := 2) (oi := { dst := some 22, op := Op.move (Operand.tmp 8), type := 3, pos := _, after := #[], guard := none }) (v := undef) rfl (by kernel_rfl) (by kernel_rfl) (by kernel_rfl) (by kernel_rfl) (fun _ _ _ h => h) (by assumption) (Or.inr ⟨by rfl, rfl⟩) (fun _ => rfl) ?_)
      try simp only [Act.put, List.setIfInBounds_toArray, List.set_cons_zero, List.set_cons_succ]
      first
        | (refine' ordS_take (i := 3) (oi := { dst := some 23, op := Op.indexAddr 27 (Operand.tmp 21) (Operand.tmp 22), type := 0, pos := _, after := #[{ on := 1, ground := Ground.data }, { on := 2, ground := Ground.data }], guard := none }) (v := _) rfl (by kernel_rfl) (by kernel_rfl) (by kernel_rfl) (by kernel_rfl) (fun _ _ _ h => h) (by assumption) (Or.inl ⟨by rfl, ?hy4⟩) (fun _ => rfl) ?rest4
           case hy4 => (intro w hSw; (try dsimp only at hSw); go_simp; try with_reducible rfl))
        | (refine ordS_take (i := 3) (oi := { dst := some 23, op := Op.indexAddr 27 (Operand.tmp 21) (Operand.tmp 22), type := 0, pos := _, after := #[{ on := 1, ground := Ground.data }, { on := 2, ground := Ground.data }], guard := none }) (v := undef) rfl (by kernel_rfl) (by kernel_rfl) (by kernel_rfl) (by kernel_rfl) (fun _ _ _ h => h) (by assumption) (Or.inr ⟨by rfl, rfl⟩) (fun _ => rfl) ?_)
      try simp only [Act.put, List.setIfInBounds_toArray, List.set_cons_zero, List.set_cons_succ]
      first
        | (refine' ordS_take (i := 4) (oi := { dst := some 24, op := Op.load 37 (Operand.tmp 23), type := 37, pos := _, after := #[{ on := 3, ground := Ground.data }], guard := none }) (v := _) rfl (by kernel_rfl) (by kernel_rfl) (by kernel_rfl) (by kernel_rfl) (fun _ _ _ h => h) (by assumption) (Or.inl ⟨by rfl, ?hy5⟩) (fun _ => rfl) ?rest5
           case hy5 => (intro w hSw; (try dsimp only at hSw); go_simp; try with_reducible rfl))
        | (refine ordS_take (i := 4) (oi := { dst := some 24, op := Op.load 37 (Operand.tmp 23), type := 37, pos := _, after := #[{ on := 3, ground := Ground.data }], guard := none }) (v := undef) rfl (by kernel_rfl) (by kernel_rfl) (by kernel_rfl) (by kernel_rfl) (fun _ _ _ h => h) (by assumption) (Or.inr ⟨by rfl, rfl⟩) (fun _ => rfl) ?_)
      try simp only [Act.put, List.setIfInBounds_toArray, List.set_cons_zero, List.set_cons_succ]
      first
        | (refine' ordS_take (i := 5) (oi := { dst := some 25, op := Op.move (Operand.tmp 2), type := 3, pos := _, after := #[], guard := none }) (v := _) rfl (by kernel_rfl) (by kernel_rfl) (by kernel_rfl) (by kernel_rfl) (fun _ _ _ h => h) (by assumption) (Or.inl ⟨by rfl, ?hy6⟩) (fun _ => rfl) ?rest6
           case hy6 => (intro w hSw; (try dsimp only at hSw); go_simp; try with_reducible rfl))
        | (refine ordS_take (i := 5) (oi := { dst := some 25, op := Op.move (Operand.tmp 2), type := 3, pos := _, after := #[], guard := none }) (v := undef) rfl (by kernel_rfl) (by kernel_rfl) (by kernel_rfl) (by kernel_rfl) (fun _ _ _ h => h) (by assumption) (Or.inr ⟨by rfl, rfl⟩) (fun _ => rfl) ?_)
      try simp only [Act.put, List.setIfInBounds_toArray, List.set_cons_zero, List.set_cons_succ]
      refine ordS_one (i := 6) (o := { dst := some 26, op := Op.call { callee := Callee.value (Operand.func 22), args := #[Operand.tmp 20, Operand.tmp 24, Operand.tmp 25], argTypes := #[26, 37, 3] }, type := 39, pos := _, after := #[{ on := 0, ground := Ground.data }, { on := 4, ground := Ground.data }, { on := 5, ground := Ground.data }], guard := none }) (by kernel_rfl) rfl (by rfl) (fun K hK => ?_)
      go_simp
      refine ⟨trivial, ?_⟩
      with_reducible refine (callsIn_wide.2 (rvisible_any X Y r x y a cap fs _ (hr.below (bl_tr hwr hD)) hu hmay HAREA.out HXI.out h0 h1)).mono ?_
      rintro e w8 ⟨b3, h3, rfl, hm3, _, _, _, hb8⟩
      rw [HN.out, HVS.out] at hm3
      have hb8' := bl_tr hD hb8
      replace p0 := cell_later hb8' p0
      replace p1 := cell_later hb8' p1
      replace f0 := cell_later hb8' f0
      replace f1 := cell_later hb8' f1
      replace f2 := cell_later hb8' f2
      have hS8 : (fun w' : World => w'.cell? ⟨gz, oz + k * 2, none⟩ = some (.int .i64 x) ∧ w'.cell? ⟨gz, oz + k * 2 + 1, none⟩ = some (.int .i64 y) ∧ w'.cell? ⟨w.heap.size, 0, none⟩ = some (.int .i64 X) ∧ w'.cell? ⟨w.heap.size, 1, none⟩ = some (.int .i64 Y) ∧ w'.cell? ⟨w.heap.size, 2, none⟩ = some (.slice a fs.length cap)) w8 := ⟨p0, p1, f0, f1, f2⟩
      have HM8 := Lib.hid (HM.out.below hb8')
      have HG8 := Lib.hid (HG.out.trans (grown_weak (grown_of_below hb8') _))
      refine hK _ _ hS8 ?_
      clear hK K hH hb8 hD HM HG hS8 hb8'
      try simp only [Act.put, List.setIfInBounds_toArray, List.set_cons_zero, List.set_cons_succ]
      refine ordS_one (i := 7) (o := { dst := some 27, op := Op.call { callee := Callee.value (Operand.func 66), args := #[Operand.tmp 26], argTypes := #[39] }, type := 27, pos := _, after := #[{ on := 6, ground := Ground.data }, { on := 6, ground := Ground.chain }], guard := none }) (by kernel_rfl) rfl (by rfl) (fun K hK => ?_)
      go_simp
      refine ⟨trivial, ?_⟩
      with_reducible refine (callsIn_wide.2 (rcells_any b3 h3 X Y (fsOf N vs) _ hm3 hX1 (by rw [fsOf_len]; exact hN6))).mono ?_
      rintro e w9 ⟨a9, cap9, rfl, hrd, hb9⟩
      rw [HCS.out] at hrd
      have hS9 : (fun w' : World => w'.cell? ⟨gz, oz + k * 2, none⟩ = some (.int .i64 x) ∧ w'.cell? ⟨gz, oz + k * 2 + 1, none⟩ = some (.int .i64 y) ∧ w'.cell? ⟨w.heap.size, 0, none⟩ = some (.int .i64 X) ∧ w'.cell? ⟨w.heap.size, 1, none⟩ = some (.int .i64 Y) ∧ w'.cell? ⟨w.heap.size, 2, none⟩ = some (.slice a fs.length cap)) w9 := ⟨cell_later hb9 p0, cell_later hb9 p1, cell_later hb9 f0, cell_later hb9 f1, cell_later hb9 f2⟩
      have HM9 := Lib.hid (HM8.out.below hb9)
      have HG9 := Lib.hid (HG8.out.trans (grown_weak (grown_of_below hb9) _))
      refine hK _ _ hS9 ?_
      clear hK K hb9
      try simp only [Act.put, List.setIfInBounds_toArray, List.set_cons_zero, List.set_cons_succ]
      first
        | (refine' ordS_take (i := 8) (oi := { dst := some 9, op := Op.assign (Operand.tmp 27), type := 27, pos := _, after := #[{ on := 7, ground := Ground.data }, { on := 7, ground := Ground.chain }, { on := 0, ground := Ground.phase }, { on := 1, ground := Ground.phase }, { on := 2, ground := Ground.phase }, { on := 3, ground := Ground.phase }, { on := 4, ground := Ground.phase }, { on := 5, ground := Ground.phase }, { on := 6, ground := Ground.phase }, { on := 7, ground := Ground.phase }], guard := none }) (v := _) rfl (by kernel_rfl) (by kernel_rfl) (by kernel_rfl) (by kernel_rfl) (fun _ _ _ h => h) (by assumption) (Or.inl ⟨by rfl, ?hy7⟩) (fun _ => rfl) ?rest7
           case hy7 => (intro w hSw; (try dsimp only at hSw); go_simp; try with_reducible rfl))
        | (refine ordS_take (i := 8) (oi := { dst := some 9, op := Op.assign (Operand.tmp 27), type := 27, pos := _, after := #[{ on := 7, ground := Ground.data }, { on := 7, ground := Ground.chain }, { on := 0, ground := Ground.phase }, { on := 1, ground := Ground.phase }, { on := 2, ground := Ground.phase }, { on := 3, ground := Ground.phase }, { on := 4, ground := Ground.phase }, { on := 5, ground := Ground.phase }, { on := 6, ground := Ground.phase }, { on := 7, ground := Ground.phase }], guard := none }) (v := undef) rfl (by kernel_rfl) (by kernel_rfl) (by kernel_rfl) (by kernel_rfl) (fun _ _ _ h => h) (by assumption) (Or.inr ⟨by rfl, rfl⟩) (fun _ => rfl) ?_)
      try simp only [Act.put, List.setIfInBounds_toArray, List.set_cons_zero, List.set_cons_succ]
      refine ordS_done (by kernel_rfl) ?_
      rw [HCS.out]
      have HIN := Lib.hid (show ∀ z ∈ cellsM X Y vs, inB X Y z.1 z.2 = true from fun z hz => inM_in ((cellsM_iff hgq z).1 hz))
      obtain ⟨sl, hs⟩ : ∃ sl, cellsM X Y vs = sl := ⟨_, rfl⟩
      have hsl : sl.length ≤ 65536 := by
        have h1 := rcellsTo_le X (fsOf N vs) (fsOf N vs).length
        have h2 : (rcellsC X (fsOf N vs)).length = sl.length := by rw [HCS.out, hs]
        unfold rcellsC at h2
        rw [h2, fsOf_len] at h1
        omega
      rw [hs] at HNX HIN hrd
      rw [hs]
      have hrda := rowC_apartR hrd HM9.out
      have HRD := Lib.hid hrd
      obtain ⟨M, hM⟩ : ∃ M, sl.length = M := ⟨_, rfl⟩
      have HM' := Lib.hid hM
      have hM16 : M ≤ 65536 := by omega
      rw [hM]
      clear hS9 hM hs hrd hsl HM8 HG8 hwr p0 p1 f0 f1 f2 HCS HVS hm3 hgq
      go_wp2_with fail
      go_loopw [10] (fun i wr2 => ∃ j : Nat, j ≤ M ∧ i = .int .i64 j ∧ RefAt wr2 b h X Y (fsOf N (putAll X bs (sl.take j))) ∧ w9.grownBy wr2 (some h)) (fun i _ => M - (intOf i).toNat)
      case atStart => exact ⟨0, Nat.zero_le _, rfl, HM9.out, World.grownBy.refl _ _⟩
      case round =>
        obtain ⟨j, hj, rfl, hm2, hg2⟩ := hrel
        have hj0 : (0 : Int) ≤ (j : Int) := by omega
        by_cases hlj : j < M
        · have hlj2 : (j : Int) < (M : Int) := by omega
          have hjs : j < sl.length := by rw [HM'.out]; exact hlj
          obtain ⟨g3, o3, rfl, r0, r1⟩ := HRD.out.cell hjs
          have hg3 := hrda g3 o3 (by intro e; rw [e] at hjs; simp at hjs) rfl
          replace r0 := hg2.cell r0 (by simp; exact fun e => hg3 e)
          replace r1 := hg2.cell r1 (by simp; exact fun e => hg3 e)
          have zr := blk_lt r0
          have hzi := HIN.out _ (List.getElem_mem hjs)
          have hgp := hgr.putAll (sl.take j) (fun z hz => HIN.out z (List.mem_of_mem_take hz))
          have HPS := Lib.hid (putAll_succ X bs sl j hjs)
          obtain ⟨u, hu1⟩ : ∃ u, sl[j].1 = u := ⟨_, rfl⟩
          obtain ⟨v, hv1⟩ : ∃ v, sl[j].2 = v := ⟨_, rfl⟩
          rw [hu1] at r0 hzi HPS
          rw [hv1] at r1 hzi HPS
          have HM2 := Lib.hid hm2
          have HG2 := Lib.hid hg2
          have HGP := Lib.hid hgp
          clear hu1 hv1 hm2 hg2 hgp
          go_wp2_with fail
          refine (rset_yes b h X Y u v true _ _ HM2.out hne (by rw [fsOf_len, ← HN.out, mul_in hmay]) hzi).mono ?_
          rintro e w10 ⟨rfl, hm10, hg10⟩
          rw [← fsOf_set true (HGP.out.idx hzi), ← HPS.out] at hm10
          have HM10 := Lib.hid hm10
          have HG10 := Lib.hid (HG2.out.trans hg10)
          clear hm10 hg10 r0 r1
          go_wp2
          go_roundw
          case rel => exact ⟨j + 1, by omega, by go_num, HM10.out, HG10.out⟩
          case measure => simp [intOf]; omega
        · obtain rfl : j = M := by omega
          rw [List.take_of_length_le (by rw [HM'.out]; exact Nat.le_refl _), ← HNX.out] at hm2
          have HM2 := Lib.hid hm2
          have hgn := hgr.putAll sl HIN.out
          rw [← HNX.out] at hgn
          have HGN := Lib.hid hgn
          have HG2 := Lib.hid (HG9.out.trans hg2)
          clear hm2 hg2 hgn
          go_wp2
          go_roundw
          case rel => exact ⟨k + 1, by omega, by go_num, HM2.out, HGN.out, HG2.out⟩
          case measure => simp [intOf]; omega
    · obtain rfl : k = zs.length := by omega
      rw [List.take_length, HALL.out] at hmr
      have hF := hA.grown hG hA.size (fun j e => by cases e; omega)
      clear hG hA
      go_wp2
      go_ret
      exact ⟨b, h, rfl, hmr, by omega, by omega, hne, hF⟩
end Go.Proofs.Ythebiibiapjdiaa

/- SightSees: whether a set is the document's answer's. -/
namespace Go.Proofs.Ythebiibiapjdiaa
open Go.RowKit

set_option maxRecDepth 100000 in
set_option maxHeartbeats 8000000 in
theorem told_any (b h b2 h2 : Nat) (X Y : Int) (ms : List Nat) (w : World) (hm : MaskAt w b h X Y ms) (hm2 : RefAt w b2 h2 X Y (fsOf (X * Y).toNat ms)) (g : Good X Y ms) :
    Calls Try.prog 19 #[.pointer (some ⟨b, 0, none⟩), .pointer (some ⟨b2, 0, none⟩)] w fun e w' => e = .returned (.bool true) ∧ Below w.heap.size w w' := by
  have hA := bl0 w
  have hX1 : 1 ≤ X := (mayB_iff.1 g.1).1
  have hcs := cells_same g
  have hN6 : (fsOf (X * Y).toNat ms).length ≤ 65536 := by rw [fsOf_len]; have := area_bd g.1; omega
  have hcl := cellsM_len X Y ms g.2.2.1
  obtain ⟨M, hM⟩ : ∃ M, ones ms = M := ⟨_, rfl⟩
  have HM := Lib.hid hM
  have hM6 : M ≤ 600000 := by have := ones_le ms g.2.2.1; have := g.small; omega
  rw [hM] at hcl
  have HCL := Lib.hid hcl
  have HCS := Lib.hid hcs
  have HIN := Lib.hid (show ∀ z ∈ cellsM X Y ms, inM X Y ms z = true from fun z hz => (cellsM_iff g z).1 hz)
  clear hM hcl hcs
  go_enter Try.func19, Try.ntmps19
  go_wp2_with fail
  refine (rcells_any b2 h2 X Y _ _ hm2 hX1 hN6).mono ?_
  rintro e w1 ⟨a, cap, rfl, hrc, hb⟩
  rw [HCS.out] at hrc ⊢
  rw [HCL.out]
  replace hA := bl_tr hA hb
  replace hm := hm.below hb
  replace hm2 := hm2.below hb
  have HRC := Lib.hid hrc
  clear hrc hb
  go_wp2_with fail
  go_loopw [6, 7] (fun v i wr => ∃ k : Nat, k ≤ M ∧ i = .int .i64 k ∧ v = .int .i64 k ∧ Below w1.heap.size w1 wr) (fun _ i _ => M - (intOf i).toNat)
  case atStart => exact ⟨0, Nat.zero_le _, rfl, rfl, bl0 _⟩
  case round =>
    obtain ⟨k, hk, rfl, rfl, hB⟩ := hrel
    have hk0 : (0 : Int) ≤ (k : Int) := by omega
    by_cases hlt : k < M
    · have hlt2 : (k : Int) < (M : Int) := by omega
      have hks : k < (cellsM X Y ms).length := by rw [HCL.out]; exact hlt
      obtain ⟨g3, o3, rfl, r0, r1⟩ := HRC.out.cell hks
      have hi := HIN.out _ (List.getElem_mem hks)
      obtain ⟨x, hx⟩ : ∃ x, (cellsM X Y ms)[k].1 = x := ⟨_, rfl⟩
      obtain ⟨y, hy⟩ : ∃ y, (cellsM X Y ms)[k].2 = y := ⟨_, rfl⟩
      rw [show (cellsM X Y ms)[k] = (x, y) from Prod.ext hx hy] at hi
      rw [hx] at r0
      rw [hy] at r1
      replace r0 := cell_later hB r0
      replace r1 := cell_later hB r1
      have zr := blk_lt r0
      have HI := Lib.hid hi
      clear hi hx hy
      go_wp2_with fail
      refine (has_all b h X Y x y ms _ (hm.below hB) g).mono ?_
      rintro e w2 ⟨rfl, hb2⟩
      rw [HI.out]
      have HB2 := Lib.hid (bl_tr hB hb2)
      clear hB hb2 r0 r1
      go_wp2
      go_roundw
      case rel => exact ⟨k + 1, by omega, by go_num, by go_num, HB2.out⟩
      case measure => simp [intOf]; omega
    · obtain rfl : k = M := by omega
      have hm3 := hm.below hB
      have hby : IsBytes ms := g.2.2.1
      have hsm := g.small
      have c0 := (hm2.below hB).c0
      have c1 := (hm2.below hB).c1
      have hA3 := bl_tr hA hB
      have be := beq_self_eq_true (k : Int)
      have bX := beq_self_eq_true X
      have bY := beq_self_eq_true Y
      clear hB
      go_upto_region 9 with fail
      refine (wpIn_wide (n := 11)).1 ?_
      have hD := bl_dr (bl0 wr)
      refine ordS_begin (S := (fun w' : World => w'.cell? ⟨b2, 0, none⟩ = some (.int .i64 X) ∧ w'.cell? ⟨b2, 1, none⟩ = some (.int .i64 Y))) (by kernel_rfl) ⟨cell_later hD c0, cell_later hD c1⟩ (fun hH => ?_)
      first
        | (refine' ordS_take (i := 0) (oi := { dst := some 25, op := Op.move (Operand.tmp 0), type := 30, pos := _, after := #[], guard := none }) (v := _) rfl (by kernel_rfl) (by kernel_rfl) (by kernel_rfl) (by kernel_rfl) (fun _ _ _ h => h) (by assumption) (Or.inl ⟨by rfl, ?hy1⟩) (fun _ => rfl) ?rest1
           case hy1 => (intro w hSw; (try dsimp only at hSw); go_simp; try with_reducible rfl))
        | (refine ordS_take (i := 0) (oi := { dst := some 25, op := Op.move (Operand.tmp 0), type := 30, pos := _, after := #[], guard := none }) (v := undef) rfl (by kernel_rfl) (by kernel_rfl) (by kernel_rfl) (by kernel_rfl) (fun _ _ _ h => h) (by assumption) (Or.inr ⟨by rfl, rfl⟩) (fun _ => rfl) ?_)
      try simp only [Act.put, List.setIfInBounds_toArray, List.set_cons_zero, List.set_cons_succ]
      first
        | (refine' ordS_take (i := 2) (oi := { dst := some 27, op := Op.move (Operand.tmp 6), type := 3, pos := _, after := #[], guard := none }) (v := _) rfl (by kernel_rfl) (by kernel_rfl) (by kernel_rfl) (by kernel_rfl) (fun _ _ _ h => h) (by assumption) (Or.inl ⟨by rfl, ?hy2⟩) (fun _ => rfl) ?rest2
           case hy2 => (intro w hSw; (try dsimp only at hSw); go_simp; try with_reducible rfl))
        | (refine ordS_take (i := 2) (oi := { dst := some 27, op := Op.move (Operand.tmp 6), type := 3, pos := _, after := #[], guard := none }) (v := undef) rfl (by kernel_rfl) (by kernel_rfl) (by kernel_rfl) (by kernel_rfl) (fun _ _ _ h => h) (by assumption) (Or.inr ⟨by rfl, rfl⟩) (fun _ => rfl) ?_)
      try simp only [Act.put, List.setIfInBounds_toArray, List.set_cons_zero, List.set_cons_succ]
      refine ordS_one (i := 1) (o := { dst := some 26, op := Op.call { callee := Callee.value (Operand.func 46), args := #[Operand.tmp 25], argTypes := #[30] }, type := 3, pos := _, after := #[{ on := 0, ground := Ground.data }], guard := none }) (by kernel_rfl) rfl (by rfl) (fun K hK => ?_)
      go_simp
      refine ⟨trivial, ?_⟩
      with_reducible refine (callsIn_wide.2 (count_any b h X Y ms _ (hm3.below hD) hby hsm)).mono ?_
      rintro e w4 ⟨rfl, rfl⟩
      rw [HM.out]
      refine hK _ _ hH ?_
      clear hK K
      try simp only [Act.put, List.setIfInBounds_toArray, List.set_cons_zero, List.set_cons_succ]
      first
        | (refine' ordS_take (i := 3) (oi := { dst := some 28, op := Op.binOp BinOp.eql 3 (Operand.tmp 26) (Operand.tmp 27) 3, type := 4, pos := _, after := #[{ on := 1, ground := Ground.data }, { on := 2, ground := Ground.data }], guard := none }) (v := _) rfl (by kernel_rfl) (by kernel_rfl) (by kernel_rfl) (by kernel_rfl) (fun _ _ _ h => h) (by assumption) (Or.inl ⟨by rfl, ?hy3⟩) (fun _ => rfl) ?rest3
           case hy3 => (intro w hSw; (try dsimp only at hSw); go_simp; try with_reducible rfl))
        | (refine ordS_take (i := 3) (oi := { dst := some 28, op := Op.binOp BinOp.eql 3 (Operand.tmp 26) (Operand.tmp 27) 3, type := 4, pos := _, after := #[{ on := 1, ground := Ground.data }, { on := 2, ground := Ground.data }], guard := none }) (v := undef) rfl (by kernel_rfl) (by kernel_rfl) (by kernel_rfl) (by kernel_rfl) (fun _ _ _ h => h) (by assumption) (Or.inr ⟨by rfl, rfl⟩) (fun _ => rfl) ?_)
      try simp only [Act.put, List.setIfInBounds_toArray, List.set_cons_zero, List.set_cons_succ]
      first
        | (refine' ordS_take (i := 4) (oi := { dst := some 29, op := Op.move (Operand.tmp 28), type := 4, pos := _, after := #[{ on := 3, ground := Ground.data }, { on := 1, ground := Ground.chain }], guard := none }) (v := _) rfl (by kernel_rfl) (by kernel_rfl) (by kernel_rfl) (by kernel_rfl) (fun _ _ _ h => h) (by assumption) (Or.inl ⟨by rfl, ?hy4⟩) (fun _ => rfl) ?rest4
           case hy4 => (intro w hSw; (try dsimp only at hSw); go_simp; try with_reducible rfl))
        | (refine ordS_take (i := 4) (oi := { dst := some 29, op := Op.move (Operand.tmp 28), type := 4, pos := _, after := #[{ on := 3, ground := Ground.data }, { on := 1, ground := Ground.chain }], guard := none }) (v := undef) rfl (by kernel_rfl) (by kernel_rfl) (by kernel_rfl) (by kernel_rfl) (fun _ _ _ h => h) (by assumption) (Or.inr ⟨by rfl, rfl⟩) (fun _ => rfl) ?_)
      try simp only [Act.put, List.setIfInBounds_toArray, List.set_cons_zero, List.set_cons_succ]
      first
        | (refine' ordS_take (i := 5) (oi := { dst := some 30, op := Op.move (Operand.tmp 0), type := 30, pos := _, after := #[{ on := 4, ground := Ground.guard }], guard := some (4, true) }) (v := _) rfl (by kernel_rfl) (by kernel_rfl) (by kernel_rfl) (by kernel_rfl) (fun _ _ _ h => h) (by assumption) (Or.inl ⟨by rfl, ?hy5⟩) (fun _ => rfl) ?rest5
           case hy5 => (intro w hSw; (try dsimp only at hSw); go_simp; try with_reducible rfl))
        | (refine ordS_take (i := 5) (oi := { dst := some 30, op := Op.move (Operand.tmp 0), type := 30, pos := _, after := #[{ on := 4, ground := Ground.guard }], guard := some (4, true) }) (v := undef) rfl (by kernel_rfl) (by kernel_rfl) (by kernel_rfl) (by kernel_rfl) (fun _ _ _ h => h) (by assumption) (Or.inr ⟨by rfl, rfl⟩) (fun _ => rfl) ?_)
      try simp only [Act.put, List.setIfInBounds_toArray, List.set_cons_zero, List.set_cons_succ]
      first
        | (refine' ordS_take (i := 7) (oi := { dst := some 32, op := Op.move (Operand.tmp 1), type := 39, pos := _, after := #[{ on := 4, ground := Ground.guard }], guard := some (4, true) }) (v := _) rfl (by kernel_rfl) (by kernel_rfl) (by kernel_rfl) (by kernel_rfl) (fun _ _ _ h => h) (by assumption) (Or.inl ⟨by rfl, ?hy6⟩) (fun _ => rfl) ?rest6
           case hy6 => (intro w hSw; (try dsimp only at hSw); go_simp; try with_reducible rfl))
        | (refine ordS_take (i := 7) (oi := { dst := some 32, op := Op.move (Operand.tmp 1), type := 39, pos := _, after := #[{ on := 4, ground := Ground.guard }], guard := some (4, true) }) (v := undef) rfl (by kernel_rfl) (by kernel_rfl) (by kernel_rfl) (by kernel_rfl) (fun _ _ _ h => h) (by assumption) (Or.inr ⟨by rfl, rfl⟩) (fun _ => rfl) ?_)
      try simp only [Act.put, List.setIfInBounds_toArray, List.set_cons_zero, List.set_cons_succ]
      first
        | (refine' ordS_take (i := 8) (oi := { dst := some 33, op := Op.nilCheck (Operand.tmp 32), type := 0, pos := _, after := #[{ on := 7, ground := Ground.data }, { on := 4, ground := Ground.guard }], guard := some (4, true) }) (v := _) rfl (by kernel_rfl) (by kernel_rfl) (by kernel_rfl) (by kernel_rfl) (fun _ _ _ h => h) (by assumption) (Or.inl ⟨by rfl, ?hy7⟩) (fun _ => rfl) ?rest7
           case hy7 => (intro w hSw; (try dsimp only at hSw); go_simp; try with_reducible rfl))
        | (refine ordS_take (i := 8) (oi := { dst := some 33, op := Op.nilCheck (Operand.tmp 32), type := 0, pos := _, after := #[{ on := 7, ground := Ground.data }, { on := 4, ground := Ground.guard }], guard := some (4, true) }) (v := undef) rfl (by kernel_rfl) (by kernel_rfl) (by kernel_rfl) (by kernel_rfl) (fun _ _ _ h => h) (by assumption) (Or.inr ⟨by rfl, rfl⟩) (fun _ => rfl) ?_)
      try simp only [Act.put, List.setIfInBounds_toArray, List.set_cons_zero, List.set_cons_succ]
      first
        | (refine' ordS_take (i := 9) (oi := { dst := some 34, op := Op.fieldAddr 114 (Operand.tmp 33) 0, type := 0, pos := _, after := #[{ on := 8, ground := Ground.data }, { on := 4, ground := Ground.guard }], guard := some (4, true) }) (v := _) rfl (by kernel_rfl) (by kernel_rfl) (by kernel_rfl) (by kernel_rfl) (fun _ _ _ h => h) (by assumption) (Or.inl ⟨by rfl, ?hy8⟩) (fun _ => rfl) ?rest8
           case hy8 => (intro w hSw; (try dsimp only at hSw); go_simp; try with_reducible rfl))
        | (refine ordS_take (i := 9) (oi := { dst := some 34, op := Op.fieldAddr 114 (Operand.tmp 33) 0, type := 0, pos := _, after := #[{ on := 8, ground := Ground.data }, { on := 4, ground := Ground.guard }], guard := some (4, true) }) (v := undef) rfl (by kernel_rfl) (by kernel_rfl) (by kernel_rfl) (by kernel_rfl) (fun _ _ _ h => h) (by assumption) (Or.inr ⟨by rfl, rfl⟩) (fun _ => rfl) ?_)
      try simp only [Act.put, List.setIfInBounds_toArray, List.set_cons_zero, List.set_cons_succ]
      first
        | (refine' ordS_take (i := 10) (oi := { dst := some 35, op := Op.load 23 (Operand.tmp 34), type := 23, pos := _, after := #[{ on := 9, ground := Ground.data }, { on := 4, ground := Ground.guard }], guard := some (4, true) }) (v := _) rfl (by kernel_rfl) (by kernel_rfl) (by kernel_rfl) (by kernel_rfl) (fun _ _ _ h => h) (by assumption) (Or.inl ⟨by rfl, ?hy9⟩) (fun _ => rfl) ?rest9
           case hy9 => (intro w hSw; (try dsimp only at hSw); go_simp; try with_reducible rfl))
        | (refine ordS_take (i := 10) (oi := { dst := some 35, op := Op.load 23 (Operand.tmp 34), type := 23, pos := _, after := #[{ on := 9, ground := Ground.data }, { on := 4, ground := Ground.guard }], guard := some (4, true) }) (v := undef) rfl (by kernel_rfl) (by kernel_rfl) (by kernel_rfl) (by kernel_rfl) (fun _ _ _ h => h) (by assumption) (Or.inr ⟨by rfl, rfl⟩) (fun _ => rfl) ?_)
      try simp only [Act.put, List.setIfInBounds_toArray, List.set_cons_zero, List.set_cons_succ]
      refine ordS_one (i := 6) (o := { dst := some 31, op := Op.call { callee := Callee.value (Operand.func 67), args := #[Operand.tmp 30], argTypes := #[30] }, type := 23, pos := _, after := #[{ on := 5, ground := Ground.data }, { on := 4, ground := Ground.chain }, { on := 4, ground := Ground.guard }], guard := some (4, true) }) (by kernel_rfl) rfl (by rfl) (fun K hK => ?_)
      go_simp
      refine ⟨trivial, ?_⟩
      with_reducible refine (callsIn_wide.2 (size_any b h X Y ms _ (hm3.below hD))).mono ?_
      rintro e w5 ⟨rfl, hb5⟩
      have hb5' := bl_tr hD hb5
      have hS5 : (fun w' : World => w'.cell? ⟨b2, 0, none⟩ = some (.int .i64 X) ∧ w'.cell? ⟨b2, 1, none⟩ = some (.int .i64 Y)) w5 := ⟨cell_later hb5' c0, cell_later hb5' c1⟩
      have hA5 := bl_tr hA3 hb5'
      refine hK _ _ hS5 ?_
      clear hK K hb5 hb5' hH hD
      try simp only [Act.put, List.setIfInBounds_toArray, List.set_cons_zero, List.set_cons_succ]
      refine ordS_one (i := 11) (o := { dst := some 36, op := Op.binOp BinOp.eql 23 (Operand.tmp 31) (Operand.tmp 35) 23, type := 4, pos := _, after := #[{ on := 6, ground := Ground.data }, { on := 10, ground := Ground.data }, { on := 4, ground := Ground.guard }], guard := some (4, true) }) (by kernel_rfl) rfl (by rfl) (fun K hK => ?_)
      go_simp
      refine hK _ _ hS5 ?_
      clear hK K
      try simp only [Act.put, List.setIfInBounds_toArray, List.set_cons_zero, List.set_cons_succ]
      first
        | (refine' ordS_take (i := 12) (oi := { dst := some 37, op := Op.pick (Operand.tmp 29) (Operand.tmp 36) (Operand.const (Value.bool false)), type := 4, pos := _, after := #[{ on := 4, ground := Ground.data }, { on := 11, ground := Ground.data }], guard := none }) (v := _) rfl (by kernel_rfl) (by kernel_rfl) (by kernel_rfl) (by kernel_rfl) (fun _ _ _ h => h) (by assumption) (Or.inl ⟨by rfl, ?hy10⟩) (fun _ => rfl) ?rest10
           case hy10 => (intro w hSw; (try dsimp only at hSw); go_simp; try with_reducible rfl))
        | (refine ordS_take (i := 12) (oi := { dst := some 37, op := Op.pick (Operand.tmp 29) (Operand.tmp 36) (Operand.const (Value.bool false)), type := 4, pos := _, after := #[{ on := 4, ground := Ground.data }, { on := 11, ground := Ground.data }], guard := none }) (v := undef) rfl (by kernel_rfl) (by kernel_rfl) (by kernel_rfl) (by kernel_rfl) (fun _ _ _ h => h) (by assumption) (Or.inr ⟨by rfl, rfl⟩) (fun _ => rfl) ?_)
      try simp only [Act.put, List.setIfInBounds_toArray, List.set_cons_zero, List.set_cons_succ]
      first
        | (refine' ordS_take (i := 13) (oi := { dst := some 4, op := Op.assign (Operand.tmp 37), type := 4, pos := _, after := #[{ on := 12, ground := Ground.data }, { on := 6, ground := Ground.chain }, { on := 0, ground := Ground.phase }, { on := 1, ground := Ground.phase }, { on := 2, ground := Ground.phase }, { on := 3, ground := Ground.phase }, { on := 4, ground := Ground.phase }, { on := 5, ground := Ground.phase }, { on := 6, ground := Ground.phase }, { on := 7, ground := Ground.phase }, { on := 8, ground := Ground.phase }, { on := 9, ground := Ground.phase }, { on := 10, ground := Ground.phase }, { on := 11, ground := Ground.phase }, { on := 12, ground := Ground.phase }], guard := none }) (v := _) rfl (by kernel_rfl) (by kernel_rfl) (by kernel_rfl) (by kernel_rfl) (fun _ _ _ h => h) (by assumption) (Or.inl ⟨by rfl, ?hy11⟩) (fun _ => rfl) ?rest11
           case hy11 => (intro w hSw; (try dsimp only at hSw); go_simp; try with_reducible rfl))
        | (refine ordS_take (i := 13) (oi := { dst := some 4, op := Op.assign (Operand.tmp 37), type := 4, pos := _, after := #[{ on := 12, ground := Ground.data }, { on := 6, ground := Ground.chain }, { on := 0, ground := Ground.phase }, { on := 1, ground := Ground.phase }, { on := 2, ground := Ground.phase }, { on := 3, ground := Ground.phase }, { on := 4, ground := Ground.phase }, { on := 5, ground := Ground.phase }, { on := 6, ground := Ground.phase }, { on := 7, ground := Ground.phase }, { on := 8, ground := Ground.phase }, { on := 9, ground := Ground.phase }, { on := 10, ground := Ground.phase }, { on := 11, ground := Ground.phase }, { on := 12, ground := Ground.phase }], guard := none }) (v := undef) rfl (by kernel_rfl) (by kernel_rfl) (by kernel_rfl) (by kernel_rfl) (fun _ _ _ h => h) (by assumption) (Or.inr ⟨by rfl, rfl⟩) (fun _ => rfl) ?_)
      try simp only [Act.put, List.setIfInBounds_toArray, List.set_cons_zero, List.set_cons_succ]
      refine ordS_done (by kernel_rfl) ?_
      clear hS5
      go_wp2
      go_ret
      exact ⟨rfl, hA5⟩
end Go.Proofs.Ythebiibiapjdiaa
