/- Texts joined: We, Vf, Vg, Wf, Wg, Wh, Wi, Wj, Wk. -/
import Derived.Test.YthebiibiapjdiaaQ1
import Derived.Deep.CutRange
import Derived.LoopTactic
import Derived.OwnWalk
import Derived.Laws.OwnMore
import Derived.Lib.Hide
import Derived.Deep.RegionHeld3
import Derived.Laws.MakeOwn
/- The document's answer for lines; whether two rows of cells are the same. -/
namespace Go.Proofs.Ythebiibiapjdiaa
open Go.RowKit

theorem own_cap {w : World} {base : Nat} {e : TypeId} {size n cap : Nat} {a : Option Addr} {xs : List Value} (h : w.ownsRow base e size (.slice a n cap) n xs) : n ≤ cap := by
  rcases h.2 with ⟨e1, h0⟩ | ⟨g, c, cur, e1, _, _, hc, _⟩
  · omega
  · cases e1; exact hc
theorem rowC_take {W : World} {a : Option Addr} {zs : List (Int × Int)} (h : RowC W a zs) (k : Nat) : RowC W a (zs.take k) := by
  rcases h with rfl | ⟨b, o, h1, h2⟩
  · exact .inl (by simp)
  · refine .inr ⟨b, o, h1, fun i z hz => h2 i z ?_⟩
    rw [List.getElem?_take] at hz
    split at hz
    · exact hz
    · cases hz
set_option maxRecDepth 100000 in
set_option maxHeartbeats 4000000 in
theorem rline_cap (X Y Z V : Int) (n : Nat) (w : World) (hX : plainB X Y = true) (hZ : plainB Z V = true) (hf : max (apartI X Z) (apartI Y V) = n) (hn : n ≤ 512) :
    Calls Try.prog 94 #[.agg #[.int .i64 X, .int .i64 Y], .agg #[.int .i64 Z, .int .i64 V]] w fun e w' => ∃ a cap, e = .returned (.slice a (lineF X Y Z V n).length cap) ∧ (lineF X Y Z V n).length ≤ cap ∧ RowC w' a (lineF X Y Z V n) ∧ Below w.heap.size w w' := by
  obtain ⟨n', hn', hdx, hdy⟩ := far_nat X Y Z V
  have en : n = n' := by omega
  subst en
  clear hn'
  obtain ⟨x1, x2, y1, y2⟩ := plainB_iff.1 hX
  obtain ⟨z1, z2, v1, v2⟩ := plainB_iff.1 hZ
  obtain ⟨i0, hi, hz0, hz1, hz2⟩ := info_parts Try.infoCell
  have hA := bl0 w
  go_enter Try.func94, Try.ntmps94
  go_wp2_with fail
  refine (rfar_any _ _ _ _ _ hX hZ).mono ?_
  rintro e w1 ⟨rfl, hb⟩
  have hk : Below w.heap.size w w1 := by first | exact hb | exact bl_tr (bl_al (bl0 _) _) hb | exact bl_tr (bl_dr (bl_al (bl0 _) _)) hb | exact bl_tr (bl_al (bl_al (bl0 _) _) _) hb | exact bl_tr (bl_dr (bl_al (bl_al (bl0 _) _) _)) hb | exact bl_tr (bl_al (bl_al (bl_al (bl0 _) _) _) _) hb | exact bl_tr (bl_dr (bl_al (bl_al (bl_al (bl0 _) _) _) _)) hb | exact bl_tr (bl_al (bl_al (bl_al (bl_al (bl0 _) _) _) _) _) hb | exact bl_tr (bl_dr (bl_al (bl_al (bl_al (bl_al (bl0 _) _) _) _) _)) hb | exact bl_tr (bl_al (bl_al (bl_al (bl_al (bl_al (bl0 _) _) _) _) _) _) hb | exact bl_tr (bl_dr (bl_al (bl_al (bl_al (bl_al (bl_al (bl0 _) _) _) _) _) _)) hb | exact bl_tr (bl_al (bl_al (bl_al (bl_al (bl_al (bl_al (bl0 _) _) _) _) _) _) _) hb | exact bl_tr (bl_dr (bl_al (bl_al (bl_al (bl_al (bl_al (bl_al (bl0 _) _) _) _) _) _) _)) hb | exact bl_tr (bl_dr (bl0 _)) hb
  replace hA := bl_tr hA hk
  have a0 := cell_later hb (v := .int .i64 X) (a := ⟨w.heap.size, 0, none⟩) (by simp [go_sem])
  have a1 := cell_later hb (v := .int .i64 Y) (a := ⟨w.heap.size, 1, none⟩) (by simp [go_sem])
  have b0 := cell_later hb (v := .int .i64 Z) (a := ⟨w.heap.size + 1, 0, none⟩) (by simp [go_sem])
  have b1 := cell_later hb (v := .int .i64 V) (a := ⟨w.heap.size + 1, 1, none⟩) (by simp [go_sem])
  clear hb hk
  have za0 := blk_lt a0
  have za1 := blk_lt a1
  have zb0 := blk_lt b0
  have zb1 := blk_lt b1
  rw [hf]
  clear hf
  have zb := blk_lt b0
  go_wp2
  go_loopw [6, 7] (fun v i wr => ∃ k : Nat, k ≤ n + 1 ∧ i = .int .i64 k ∧ wr.ownsRow w1.heap.size 37 2 v k (flatC ((lineF X Y Z V n).take k)) ∧ Below w1.heap.size w1 wr) (fun _ i _ => n + 1 - (intOf i).toNat)
  case atStart => exact ⟨0, Nat.zero_le _, rfl, by simpa [flatC] using World.ownsRow_nil _ _ _ _, bl0 w1⟩
  case round =>
    obtain ⟨k, hk, rfl, hown, hB⟩ := hrel
    have HO := Lib.hid hown
    have HB := Lib.hid hB
    clear hown hB
    by_cases hlt : k < n + 1
    · have hlt2 : (k : Int) ≤ (n : Int) := by omega
      obtain ⟨m1, m2⟩ := step_bd hlt hn hdx
      obtain ⟨m3, m4⟩ := step_bd hlt hn hdy
      obtain ⟨p1, p2⟩ := pF_bd (n := n) ⟨m1, m2⟩ (by omega)
      obtain ⟨p3, p4⟩ := pF_bd (n := n) ⟨m3, m4⟩ (by omega)
      have e1 : IntKind.i64.wrap (Z - X) = Z - X := IntWalk.i64_in _ (by omega)
      have e2 : IntKind.i64.wrap ((k : Int) * (Z - X)) = (k : Int) * (Z - X) := IntWalk.i64_in _ (by omega)
      have e3 : IntKind.i64.wrap (V - Y) = V - Y := IntWalk.i64_in _ (by omega)
      have e4 : IntKind.i64.wrap ((k : Int) * (V - Y)) = (k : Int) * (V - Y) := IntWalk.i64_in _ (by omega)
      have e5 : IntKind.i64.wrap (X + pF ((k : Int) * (Z - X)) n) = X + pF ((k : Int) * (Z - X)) n := IntWalk.i64_in _ (by omega)
      have e6 : IntKind.i64.wrap (Y + pF ((k : Int) * (V - Y)) n) = Y + pF ((k : Int) * (V - Y)) n := IntWalk.i64_in _ (by omega)
      have s0 := cell_later HB.out a0
      have s1 := cell_later HB.out a1
      have s2 := cell_later HB.out b0
      have s3 := cell_later HB.out b1
      go_upto_region 6 with fail
      have hb := bl_dr (bl0 wr)
      replace s0 := cell_later hb s0; replace s1 := cell_later hb s1; replace s2 := cell_later hb s2; replace s3 := cell_later hb s3
      have hB1 := hb
      clear hb
      refine (wpIn_wide (n := 11)).1 ?_
      refine ordS_begin (S := (fun w' => w'.cell? ⟨w.heap.size, 0, none⟩ = some (.int .i64 X) ∧ w'.cell? ⟨w.heap.size, 1, none⟩ = some (.int .i64 Y) ∧ w'.cell? ⟨w.heap.size + 1, 0, none⟩ = some (.int .i64 Z) ∧ w'.cell? ⟨w.heap.size + 1, 1, none⟩ = some (.int .i64 V))) (by kernel_rfl) ⟨s0, s1, s2, s3⟩ (fun hH => ?_)
      first
        | (refine' ordS_take (i := 0) (oi := { dst := some 16, op := Op.move (Operand.tmp 6), type := 27, pos := _, after := #[], guard := none }) (v := _) rfl (by kernel_rfl) (by kernel_rfl) (by kernel_rfl) (by kernel_rfl) (fun _ _ _ h => h) (by assumption) (Or.inl ⟨by rfl, ?hy1⟩) (fun _ => rfl) ?rest1
           case hy1 => (intro w hSw; (try dsimp only at hSw); go_simp; try with_reducible rfl))
        | (refine ordS_take (i := 0) (oi := { dst := some 16, op := Op.move (Operand.tmp 6), type := 27, pos := _, after := #[], guard := none }) (v := undef) rfl (by kernel_rfl) (by kernel_rfl) (by kernel_rfl) (by kernel_rfl) (fun _ _ _ h => h) (by assumption) (Or.inr ⟨by rfl, rfl⟩) (fun _ => rfl) ?_)
      try simp only [Act.put, List.setIfInBounds_toArray, List.set_cons_zero, List.set_cons_succ]
      first
        | (refine' ordS_take (i := 1) (oi := { dst := some 17, op := Op.fieldAddr 37 (Operand.tmp 2) 0, type := 0, pos := _, after := #[], guard := none }) (v := _) rfl (by kernel_rfl) (by kernel_rfl) (by kernel_rfl) (by kernel_rfl) (fun _ _ _ h => h) (by assumption) (Or.inl ⟨by rfl, ?hy2⟩) (fun _ => rfl) ?rest2
           case hy2 => (intro w hSw; (try dsimp only at hSw); go_simp; try with_reducible rfl))
        | (refine ordS_take (i := 1) (oi := { dst := some 17, op := Op.fieldAddr 37 (Operand.tmp 2) 0, type := 0, pos := _, after := #[], guard := none }) (v := undef) rfl (by kernel_rfl) (by kernel_rfl) (by kernel_rfl) (by kernel_rfl) (fun _ _ _ h => h) (by assumption) (Or.inr ⟨by rfl, rfl⟩) (fun _ => rfl) ?_)
      try simp only [Act.put, List.setIfInBounds_toArray, List.set_cons_zero, List.set_cons_succ]
      first
        | (refine' ordS_take (i := 2) (oi := { dst := some 18, op := Op.load 3 (Operand.tmp 17), type := 3, pos := _, after := #[{ on := 1, ground := Ground.data }], guard := none }) (v := _) rfl (by kernel_rfl) (by kernel_rfl) (by kernel_rfl) (by kernel_rfl) (fun _ _ _ h => h) (by assumption) (Or.inl ⟨by rfl, ?hy3⟩) (fun _ => rfl) ?rest3
           case hy3 => (intro w hSw; (try dsimp only at hSw); go_simp; try with_reducible rfl))
        | (refine ordS_take (i := 2) (oi := { dst := some 18, op := Op.load 3 (Operand.tmp 17), type := 3, pos := _, after := #[{ on := 1, ground := Ground.data }], guard := none }) (v := undef) rfl (by kernel_rfl) (by kernel_rfl) (by kernel_rfl) (by kernel_rfl) (fun _ _ _ h => h) (by assumption) (Or.inr ⟨by rfl, rfl⟩) (fun _ => rfl) ?_)
      try simp only [Act.put, List.setIfInBounds_toArray, List.set_cons_zero, List.set_cons_succ]
      first
        | (refine' ordS_take (i := 3) (oi := { dst := some 19, op := Op.move (Operand.tmp 7), type := 3, pos := _, after := #[], guard := none }) (v := _) rfl (by kernel_rfl) (by kernel_rfl) (by kernel_rfl) (by kernel_rfl) (fun _ _ _ h => h) (by assumption) (Or.inl ⟨by rfl, ?hy4⟩) (fun _ => rfl) ?rest4
           case hy4 => (intro w hSw; (try dsimp only at hSw); go_simp; try with_reducible rfl))
        | (refine ordS_take (i := 3) (oi := { dst := some 19, op := Op.move (Operand.tmp 7), type := 3, pos := _, after := #[], guard := none }) (v := undef) rfl (by kernel_rfl) (by kernel_rfl) (by kernel_rfl) (by kernel_rfl) (fun _ _ _ h => h) (by assumption) (Or.inr ⟨by rfl, rfl⟩) (fun _ => rfl) ?_)
      try simp only [Act.put, List.setIfInBounds_toArray, List.set_cons_zero, List.set_cons_succ]
      first
        | (refine' ordS_take (i := 4) (oi := { dst := some 20, op := Op.fieldAddr 37 (Operand.tmp 3) 0, type := 0, pos := _, after := #[], guard := none }) (v := _) rfl (by kernel_rfl) (by kernel_rfl) (by kernel_rfl) (by kernel_rfl) (fun _ _ _ h => h) (by assumption) (Or.inl ⟨by rfl, ?hy5⟩) (fun _ => rfl) ?rest5
           case hy5 => (intro w hSw; (try dsimp only at hSw); go_simp; try with_reducible rfl))
        | (refine ordS_take (i := 4) (oi := { dst := some 20, op := Op.fieldAddr 37 (Operand.tmp 3) 0, type := 0, pos := _, after := #[], guard := none }) (v := undef) rfl (by kernel_rfl) (by kernel_rfl) (by kernel_rfl) (by kernel_rfl) (fun _ _ _ h => h) (by assumption) (Or.inr ⟨by rfl, rfl⟩) (fun _ => rfl) ?_)
      try simp only [Act.put, List.setIfInBounds_toArray, List.set_cons_zero, List.set_cons_succ]
      first
        | (refine' ordS_take (i := 5) (oi := { dst := some 21, op := Op.load 3 (Operand.tmp 20), type := 3, pos := _, after := #[{ on := 4, ground := Ground.data }], guard := none }) (v := _) rfl (by kernel_rfl) (by kernel_rfl) (by kernel_rfl) (by kernel_rfl) (fun _ _ _ h => h) (by assumption) (Or.inl ⟨by rfl, ?hy6⟩) (fun _ => rfl) ?rest6
           case hy6 => (intro w hSw; (try dsimp only at hSw); go_simp; try with_reducible rfl))
        | (refine ordS_take (i := 5) (oi := { dst := some 21, op := Op.load 3 (Operand.tmp 20), type := 3, pos := _, after := #[{ on := 4, ground := Ground.data }], guard := none }) (v := undef) rfl (by kernel_rfl) (by kernel_rfl) (by kernel_rfl) (by kernel_rfl) (fun _ _ _ h => h) (by assumption) (Or.inr ⟨by rfl, rfl⟩) (fun _ => rfl) ?_)
      try simp only [Act.put, List.setIfInBounds_toArray, List.set_cons_zero, List.set_cons_succ]
      first
        | (refine' ordS_take (i := 6) (oi := { dst := some 22, op := Op.fieldAddr 37 (Operand.tmp 2) 0, type := 0, pos := _, after := #[], guard := none }) (v := _) rfl (by kernel_rfl) (by kernel_rfl) (by kernel_rfl) (by kernel_rfl) (fun _ _ _ h => h) (by assumption) (Or.inl ⟨by rfl, ?hy7⟩) (fun _ => rfl) ?rest7
           case hy7 => (intro w hSw; (try dsimp only at hSw); go_simp; try with_reducible rfl))
        | (refine ordS_take (i := 6) (oi := { dst := some 22, op := Op.fieldAddr 37 (Operand.tmp 2) 0, type := 0, pos := _, after := #[], guard := none }) (v := undef) rfl (by kernel_rfl) (by kernel_rfl) (by kernel_rfl) (by kernel_rfl) (fun _ _ _ h => h) (by assumption) (Or.inr ⟨by rfl, rfl⟩) (fun _ => rfl) ?_)
      try simp only [Act.put, List.setIfInBounds_toArray, List.set_cons_zero, List.set_cons_succ]
      first
        | (refine' ordS_take (i := 7) (oi := { dst := some 23, op := Op.load 3 (Operand.tmp 22), type := 3, pos := _, after := #[{ on := 6, ground := Ground.data }], guard := none }) (v := _) rfl (by kernel_rfl) (by kernel_rfl) (by kernel_rfl) (by kernel_rfl) (fun _ _ _ h => h) (by assumption) (Or.inl ⟨by rfl, ?hy8⟩) (fun _ => rfl) ?rest8
           case hy8 => (intro w hSw; (try dsimp only at hSw); go_simp; try with_reducible rfl))
        | (refine ordS_take (i := 7) (oi := { dst := some 23, op := Op.load 3 (Operand.tmp 22), type := 3, pos := _, after := #[{ on := 6, ground := Ground.data }], guard := none }) (v := undef) rfl (by kernel_rfl) (by kernel_rfl) (by kernel_rfl) (by kernel_rfl) (fun _ _ _ h => h) (by assumption) (Or.inr ⟨by rfl, rfl⟩) (fun _ => rfl) ?_)
      try simp only [Act.put, List.setIfInBounds_toArray, List.set_cons_zero, List.set_cons_succ]
      first
        | (refine' ordS_take (i := 8) (oi := { dst := some 24, op := Op.binOp BinOp.sub 3 (Operand.tmp 21) (Operand.tmp 23) 3, type := 3, pos := _, after := #[{ on := 5, ground := Ground.data }, { on := 7, ground := Ground.data }], guard := none }) (v := _) rfl (by kernel_rfl) (by kernel_rfl) (by kernel_rfl) (by kernel_rfl) (fun _ _ _ h => h) (by assumption) (Or.inl ⟨by rfl, ?hy9⟩) (fun _ => rfl) ?rest9
           case hy9 => (intro w hSw; (try dsimp only at hSw); go_simp; try with_reducible rfl))
        | (refine ordS_take (i := 8) (oi := { dst := some 24, op := Op.binOp BinOp.sub 3 (Operand.tmp 21) (Operand.tmp 23) 3, type := 3, pos := _, after := #[{ on := 5, ground := Ground.data }, { on := 7, ground := Ground.data }], guard := none }) (v := undef) rfl (by kernel_rfl) (by kernel_rfl) (by kernel_rfl) (by kernel_rfl) (fun _ _ _ h => h) (by assumption) (Or.inr ⟨by rfl, rfl⟩) (fun _ => rfl) ?_)
      try simp only [Act.put, List.setIfInBounds_toArray, List.set_cons_zero, List.set_cons_succ]
      first
        | (refine' ordS_take (i := 9) (oi := { dst := some 25, op := Op.binOp BinOp.mul 3 (Operand.tmp 19) (Operand.tmp 24) 3, type := 3, pos := _, after := #[{ on := 3, ground := Ground.data }, { on := 8, ground := Ground.data }], guard := none }) (v := _) rfl (by kernel_rfl) (by kernel_rfl) (by kernel_rfl) (by kernel_rfl) (fun _ _ _ h => h) (by assumption) (Or.inl ⟨by rfl, ?hy10⟩) (fun _ => rfl) ?rest10
           case hy10 => (intro w hSw; (try dsimp only at hSw); go_simp; try with_reducible rfl))
        | (refine ordS_take (i := 9) (oi := { dst := some 25, op := Op.binOp BinOp.mul 3 (Operand.tmp 19) (Operand.tmp 24) 3, type := 3, pos := _, after := #[{ on := 3, ground := Ground.data }, { on := 8, ground := Ground.data }], guard := none }) (v := undef) rfl (by kernel_rfl) (by kernel_rfl) (by kernel_rfl) (by kernel_rfl) (fun _ _ _ h => h) (by assumption) (Or.inr ⟨by rfl, rfl⟩) (fun _ => rfl) ?_)
      try simp only [Act.put, List.setIfInBounds_toArray, List.set_cons_zero, List.set_cons_succ]
      first
        | (refine' ordS_take (i := 10) (oi := { dst := some 26, op := Op.move (Operand.tmp 5), type := 3, pos := _, after := #[], guard := none }) (v := _) rfl (by kernel_rfl) (by kernel_rfl) (by kernel_rfl) (by kernel_rfl) (fun _ _ _ h => h) (by assumption) (Or.inl ⟨by rfl, ?hy11⟩) (fun _ => rfl) ?rest11
           case hy11 => (intro w hSw; (try dsimp only at hSw); go_simp; try with_reducible rfl))
        | (refine ordS_take (i := 10) (oi := { dst := some 26, op := Op.move (Operand.tmp 5), type := 3, pos := _, after := #[], guard := none }) (v := undef) rfl (by kernel_rfl) (by kernel_rfl) (by kernel_rfl) (by kernel_rfl) (fun _ _ _ h => h) (by assumption) (Or.inr ⟨by rfl, rfl⟩) (fun _ => rfl) ?_)
      try simp only [Act.put, List.setIfInBounds_toArray, List.set_cons_zero, List.set_cons_succ]
      first
        | (refine' ordS_take (i := 13) (oi := { dst := some 29, op := Op.fieldAddr 37 (Operand.tmp 2) 1, type := 0, pos := _, after := #[], guard := none }) (v := _) rfl (by kernel_rfl) (by kernel_rfl) (by kernel_rfl) (by kernel_rfl) (fun _ _ _ h => h) (by assumption) (Or.inl ⟨by rfl, ?hy12⟩) (fun _ => rfl) ?rest12
           case hy12 => (intro w hSw; (try dsimp only at hSw); go_simp; try with_reducible rfl))
        | (refine ordS_take (i := 13) (oi := { dst := some 29, op := Op.fieldAddr 37 (Operand.tmp 2) 1, type := 0, pos := _, after := #[], guard := none }) (v := undef) rfl (by kernel_rfl) (by kernel_rfl) (by kernel_rfl) (by kernel_rfl) (fun _ _ _ h => h) (by assumption) (Or.inr ⟨by rfl, rfl⟩) (fun _ => rfl) ?_)
      try simp only [Act.put, List.setIfInBounds_toArray, List.set_cons_zero, List.set_cons_succ]
      first
        | (refine' ordS_take (i := 14) (oi := { dst := some 30, op := Op.load 3 (Operand.tmp 29), type := 3, pos := _, after := #[{ on := 13, ground := Ground.data }], guard := none }) (v := _) rfl (by kernel_rfl) (by kernel_rfl) (by kernel_rfl) (by kernel_rfl) (fun _ _ _ h => h) (by assumption) (Or.inl ⟨by rfl, ?hy13⟩) (fun _ => rfl) ?rest13
           case hy13 => (intro w hSw; (try dsimp only at hSw); go_simp; try with_reducible rfl))
        | (refine ordS_take (i := 14) (oi := { dst := some 30, op := Op.load 3 (Operand.tmp 29), type := 3, pos := _, after := #[{ on := 13, ground := Ground.data }], guard := none }) (v := undef) rfl (by kernel_rfl) (by kernel_rfl) (by kernel_rfl) (by kernel_rfl) (fun _ _ _ h => h) (by assumption) (Or.inr ⟨by rfl, rfl⟩) (fun _ => rfl) ?_)
      try simp only [Act.put, List.setIfInBounds_toArray, List.set_cons_zero, List.set_cons_succ]
      first
        | (refine' ordS_take (i := 15) (oi := { dst := some 31, op := Op.move (Operand.tmp 7), type := 3, pos := _, after := #[], guard := none }) (v := _) rfl (by kernel_rfl) (by kernel_rfl) (by kernel_rfl) (by kernel_rfl) (fun _ _ _ h => h) (by assumption) (Or.inl ⟨by rfl, ?hy14⟩) (fun _ => rfl) ?rest14
           case hy14 => (intro w hSw; (try dsimp only at hSw); go_simp; try with_reducible rfl))
        | (refine ordS_take (i := 15) (oi := { dst := some 31, op := Op.move (Operand.tmp 7), type := 3, pos := _, after := #[], guard := none }) (v := undef) rfl (by kernel_rfl) (by kernel_rfl) (by kernel_rfl) (by kernel_rfl) (fun _ _ _ h => h) (by assumption) (Or.inr ⟨by rfl, rfl⟩) (fun _ => rfl) ?_)
      try simp only [Act.put, List.setIfInBounds_toArray, List.set_cons_zero, List.set_cons_succ]
      first
        | (refine' ordS_take (i := 16) (oi := { dst := some 32, op := Op.fieldAddr 37 (Operand.tmp 3) 1, type := 0, pos := _, after := #[], guard := none }) (v := _) rfl (by kernel_rfl) (by kernel_rfl) (by kernel_rfl) (by kernel_rfl) (fun _ _ _ h => h) (by assumption) (Or.inl ⟨by rfl, ?hy15⟩) (fun _ => rfl) ?rest15
           case hy15 => (intro w hSw; (try dsimp only at hSw); go_simp; try with_reducible rfl))
        | (refine ordS_take (i := 16) (oi := { dst := some 32, op := Op.fieldAddr 37 (Operand.tmp 3) 1, type := 0, pos := _, after := #[], guard := none }) (v := undef) rfl (by kernel_rfl) (by kernel_rfl) (by kernel_rfl) (by kernel_rfl) (fun _ _ _ h => h) (by assumption) (Or.inr ⟨by rfl, rfl⟩) (fun _ => rfl) ?_)
      try simp only [Act.put, List.setIfInBounds_toArray, List.set_cons_zero, List.set_cons_succ]
      first
        | (refine' ordS_take (i := 17) (oi := { dst := some 33, op := Op.load 3 (Operand.tmp 32), type := 3, pos := _, after := #[{ on := 16, ground := Ground.data }], guard := none }) (v := _) rfl (by kernel_rfl) (by kernel_rfl) (by kernel_rfl) (by kernel_rfl) (fun _ _ _ h => h) (by assumption) (Or.inl ⟨by rfl, ?hy16⟩) (fun _ => rfl) ?rest16
           case hy16 => (intro w hSw; (try dsimp only at hSw); go_simp; try with_reducible rfl))
        | (refine ordS_take (i := 17) (oi := { dst := some 33, op := Op.load 3 (Operand.tmp 32), type := 3, pos := _, after := #[{ on := 16, ground := Ground.data }], guard := none }) (v := undef) rfl (by kernel_rfl) (by kernel_rfl) (by kernel_rfl) (by kernel_rfl) (fun _ _ _ h => h) (by assumption) (Or.inr ⟨by rfl, rfl⟩) (fun _ => rfl) ?_)
      try simp only [Act.put, List.setIfInBounds_toArray, List.set_cons_zero, List.set_cons_succ]
      first
        | (refine' ordS_take (i := 18) (oi := { dst := some 34, op := Op.fieldAddr 37 (Operand.tmp 2) 1, type := 0, pos := _, after := #[], guard := none }) (v := _) rfl (by kernel_rfl) (by kernel_rfl) (by kernel_rfl) (by kernel_rfl) (fun _ _ _ h => h) (by assumption) (Or.inl ⟨by rfl, ?hy17⟩) (fun _ => rfl) ?rest17
           case hy17 => (intro w hSw; (try dsimp only at hSw); go_simp; try with_reducible rfl))
        | (refine ordS_take (i := 18) (oi := { dst := some 34, op := Op.fieldAddr 37 (Operand.tmp 2) 1, type := 0, pos := _, after := #[], guard := none }) (v := undef) rfl (by kernel_rfl) (by kernel_rfl) (by kernel_rfl) (by kernel_rfl) (fun _ _ _ h => h) (by assumption) (Or.inr ⟨by rfl, rfl⟩) (fun _ => rfl) ?_)
      try simp only [Act.put, List.setIfInBounds_toArray, List.set_cons_zero, List.set_cons_succ]
      first
        | (refine' ordS_take (i := 19) (oi := { dst := some 35, op := Op.load 3 (Operand.tmp 34), type := 3, pos := _, after := #[{ on := 18, ground := Ground.data }], guard := none }) (v := _) rfl (by kernel_rfl) (by kernel_rfl) (by kernel_rfl) (by kernel_rfl) (fun _ _ _ h => h) (by assumption) (Or.inl ⟨by rfl, ?hy18⟩) (fun _ => rfl) ?rest18
           case hy18 => (intro w hSw; (try dsimp only at hSw); go_simp; try with_reducible rfl))
        | (refine ordS_take (i := 19) (oi := { dst := some 35, op := Op.load 3 (Operand.tmp 34), type := 3, pos := _, after := #[{ on := 18, ground := Ground.data }], guard := none }) (v := undef) rfl (by kernel_rfl) (by kernel_rfl) (by kernel_rfl) (by kernel_rfl) (fun _ _ _ h => h) (by assumption) (Or.inr ⟨by rfl, rfl⟩) (fun _ => rfl) ?_)
      try simp only [Act.put, List.setIfInBounds_toArray, List.set_cons_zero, List.set_cons_succ]
      first
        | (refine' ordS_take (i := 20) (oi := { dst := some 36, op := Op.binOp BinOp.sub 3 (Operand.tmp 33) (Operand.tmp 35) 3, type := 3, pos := _, after := #[{ on := 17, ground := Ground.data }, { on := 19, ground := Ground.data }], guard := none }) (v := _) rfl (by kernel_rfl) (by kernel_rfl) (by kernel_rfl) (by kernel_rfl) (fun _ _ _ h => h) (by assumption) (Or.inl ⟨by rfl, ?hy19⟩) (fun _ => rfl) ?rest19
           case hy19 => (intro w hSw; (try dsimp only at hSw); go_simp; try with_reducible rfl))
        | (refine ordS_take (i := 20) (oi := { dst := some 36, op := Op.binOp BinOp.sub 3 (Operand.tmp 33) (Operand.tmp 35) 3, type := 3, pos := _, after := #[{ on := 17, ground := Ground.data }, { on := 19, ground := Ground.data }], guard := none }) (v := undef) rfl (by kernel_rfl) (by kernel_rfl) (by kernel_rfl) (by kernel_rfl) (fun _ _ _ h => h) (by assumption) (Or.inr ⟨by rfl, rfl⟩) (fun _ => rfl) ?_)
      try simp only [Act.put, List.setIfInBounds_toArray, List.set_cons_zero, List.set_cons_succ]
      first
        | (refine' ordS_take (i := 21) (oi := { dst := some 37, op := Op.binOp BinOp.mul 3 (Operand.tmp 31) (Operand.tmp 36) 3, type := 3, pos := _, after := #[{ on := 15, ground := Ground.data }, { on := 20, ground := Ground.data }], guard := none }) (v := _) rfl (by kernel_rfl) (by kernel_rfl) (by kernel_rfl) (by kernel_rfl) (fun _ _ _ h => h) (by assumption) (Or.inl ⟨by rfl, ?hy20⟩) (fun _ => rfl) ?rest20
           case hy20 => (intro w hSw; (try dsimp only at hSw); go_simp; try with_reducible rfl))
        | (refine ordS_take (i := 21) (oi := { dst := some 37, op := Op.binOp BinOp.mul 3 (Operand.tmp 31) (Operand.tmp 36) 3, type := 3, pos := _, after := #[{ on := 15, ground := Ground.data }, { on := 20, ground := Ground.data }], guard := none }) (v := undef) rfl (by kernel_rfl) (by kernel_rfl) (by kernel_rfl) (by kernel_rfl) (fun _ _ _ h => h) (by assumption) (Or.inr ⟨by rfl, rfl⟩) (fun _ => rfl) ?_)
      try simp only [Act.put, List.setIfInBounds_toArray, List.set_cons_zero, List.set_cons_succ]
      first
        | (refine' ordS_take (i := 22) (oi := { dst := some 38, op := Op.move (Operand.tmp 5), type := 3, pos := _, after := #[], guard := none }) (v := _) rfl (by kernel_rfl) (by kernel_rfl) (by kernel_rfl) (by kernel_rfl) (fun _ _ _ h => h) (by assumption) (Or.inl ⟨by rfl, ?hy21⟩) (fun _ => rfl) ?rest21
           case hy21 => (intro w hSw; (try dsimp only at hSw); go_simp; try with_reducible rfl))
        | (refine ordS_take (i := 22) (oi := { dst := some 38, op := Op.move (Operand.tmp 5), type := 3, pos := _, after := #[], guard := none }) (v := undef) rfl (by kernel_rfl) (by kernel_rfl) (by kernel_rfl) (by kernel_rfl) (fun _ _ _ h => h) (by assumption) (Or.inr ⟨by rfl, rfl⟩) (fun _ => rfl) ?_)
      try simp only [Act.put, List.setIfInBounds_toArray, List.set_cons_zero, List.set_cons_succ]
      try simp only [e1, e2, e3, e4]
      refine ordS_one (i := 11) (o := { dst := some 27, op := Op.call { callee := Callee.value (Operand.func 105), args := #[Operand.tmp 25, Operand.tmp 26], argTypes := #[3, 3] }, type := 3, pos := _, after := #[{ on := 9, ground := Ground.data }, { on := 10, ground := Ground.data }], guard := none }) (by kernel_rfl) rfl (by rfl) (fun K hK => ?_)
      go_simp
      refine ⟨trivial, ?_⟩
      with_reducible refine (callsIn_wide.2 (rnear_any _ _ _ ⟨m1, m2⟩ (by omega))).mono ?_
      rintro e w8 ⟨rfl, hb⟩
      replace s0 := cell_later hb s0; replace s1 := cell_later hb s1; replace s2 := cell_later hb s2; replace s3 := cell_later hb s3
      replace hB1 := bl_tr hB1 hb
      have hS8 : (fun w' => w'.cell? ⟨w.heap.size, 0, none⟩ = some (.int .i64 X) ∧ w'.cell? ⟨w.heap.size, 1, none⟩ = some (.int .i64 Y) ∧ w'.cell? ⟨w.heap.size + 1, 0, none⟩ = some (.int .i64 Z) ∧ w'.cell? ⟨w.heap.size + 1, 1, none⟩ = some (.int .i64 V)) w8 := ⟨s0, s1, s2, s3⟩
      refine hK _ _ hS8 ?_
      clear hK K hb
      try simp only [Act.put, List.setIfInBounds_toArray, List.set_cons_zero, List.set_cons_succ]
      first
        | (refine' ordS_take (i := 12) (oi := { dst := some 28, op := Op.binOp BinOp.add 3 (Operand.tmp 18) (Operand.tmp 27) 3, type := 3, pos := _, after := #[{ on := 2, ground := Ground.data }, { on := 11, ground := Ground.data }], guard := none }) (v := _) rfl (by kernel_rfl) (by kernel_rfl) (by kernel_rfl) (by kernel_rfl) (fun _ _ _ h => h) (by assumption) (Or.inl ⟨by rfl, ?hy22⟩) (fun _ => rfl) ?rest22
           case hy22 => (intro w hSw; (try dsimp only at hSw); go_simp; try with_reducible rfl))
        | (refine ordS_take (i := 12) (oi := { dst := some 28, op := Op.binOp BinOp.add 3 (Operand.tmp 18) (Operand.tmp 27) 3, type := 3, pos := _, after := #[{ on := 2, ground := Ground.data }, { on := 11, ground := Ground.data }], guard := none }) (v := undef) rfl (by kernel_rfl) (by kernel_rfl) (by kernel_rfl) (by kernel_rfl) (fun _ _ _ h => h) (by assumption) (Or.inr ⟨by rfl, rfl⟩) (fun _ => rfl) ?_)
      try simp only [Act.put, List.setIfInBounds_toArray, List.set_cons_zero, List.set_cons_succ]
      refine ordS_one (i := 23) (o := { dst := some 39, op := Op.call { callee := Callee.value (Operand.func 105), args := #[Operand.tmp 37, Operand.tmp 38], argTypes := #[3, 3] }, type := 3, pos := _, after := #[{ on := 21, ground := Ground.data }, { on := 22, ground := Ground.data }, { on := 11, ground := Ground.chain }], guard := none }) (by kernel_rfl) rfl (by rfl) (fun K hK => ?_)
      go_simp
      refine ⟨trivial, ?_⟩
      with_reducible refine (callsIn_wide.2 (rnear_any _ _ _ ⟨m3, m4⟩ (by omega))).mono ?_
      rintro e w9 ⟨rfl, hb⟩
      replace s0 := cell_later hb s0; replace s1 := cell_later hb s1; replace s2 := cell_later hb s2; replace s3 := cell_later hb s3
      replace hB1 := bl_tr hB1 hb
      have hS9 : (fun w' => w'.cell? ⟨w.heap.size, 0, none⟩ = some (.int .i64 X) ∧ w'.cell? ⟨w.heap.size, 1, none⟩ = some (.int .i64 Y) ∧ w'.cell? ⟨w.heap.size + 1, 0, none⟩ = some (.int .i64 Z) ∧ w'.cell? ⟨w.heap.size + 1, 1, none⟩ = some (.int .i64 V)) w9 := ⟨s0, s1, s2, s3⟩
      refine hK _ _ hS9 ?_
      clear hK K hb
      try simp only [Act.put, List.setIfInBounds_toArray, List.set_cons_zero, List.set_cons_succ]
      first
        | (refine' ordS_take (i := 24) (oi := { dst := some 40, op := Op.binOp BinOp.add 3 (Operand.tmp 30) (Operand.tmp 39) 3, type := 3, pos := _, after := #[{ on := 14, ground := Ground.data }, { on := 23, ground := Ground.data }], guard := none }) (v := _) rfl (by kernel_rfl) (by kernel_rfl) (by kernel_rfl) (by kernel_rfl) (fun _ _ _ h => h) (by assumption) (Or.inl ⟨by rfl, ?hy23⟩) (fun _ => rfl) ?rest23
           case hy23 => (intro w hSw; (try dsimp only at hSw); go_simp; try with_reducible rfl))
        | (refine ordS_take (i := 24) (oi := { dst := some 40, op := Op.binOp BinOp.add 3 (Operand.tmp 30) (Operand.tmp 39) 3, type := 3, pos := _, after := #[{ on := 14, ground := Ground.data }, { on := 23, ground := Ground.data }], guard := none }) (v := undef) rfl (by kernel_rfl) (by kernel_rfl) (by kernel_rfl) (by kernel_rfl) (fun _ _ _ h => h) (by assumption) (Or.inr ⟨by rfl, rfl⟩) (fun _ => rfl) ?_)
      try simp only [Act.put, List.setIfInBounds_toArray, List.set_cons_zero, List.set_cons_succ]
      first
        | (refine' ordS_take (i := 25) (oi := { dst := some 41, op := Op.build 37 #[(0, Operand.tmp 28), (1, Operand.tmp 40)], type := 37, pos := _, after := #[{ on := 12, ground := Ground.data }, { on := 24, ground := Ground.data }], guard := none }) (v := _) rfl (by kernel_rfl) (by kernel_rfl) (by kernel_rfl) (by kernel_rfl) (fun _ _ _ h => h) (by assumption) (Or.inl ⟨by rfl, ?hy24⟩) (fun _ => rfl) ?rest24
           case hy24 => (intro w hSw; (try dsimp only at hSw); go_simp; try with_reducible rfl))
        | (refine ordS_take (i := 25) (oi := { dst := some 41, op := Op.build 37 #[(0, Operand.tmp 28), (1, Operand.tmp 40)], type := 37, pos := _, after := #[{ on := 12, ground := Ground.data }, { on := 24, ground := Ground.data }], guard := none }) (v := undef) rfl (by kernel_rfl) (by kernel_rfl) (by kernel_rfl) (by kernel_rfl) (fun _ _ _ h => h) (by assumption) (Or.inr ⟨by rfl, rfl⟩) (fun _ => rfl) ?_)
      try simp only [Act.put, List.setIfInBounds_toArray, List.set_cons_zero, List.set_cons_succ]
      try simp only [e5, e6]
      have HS := Lib.hid (lineF_snoc (X := X) (Y := Y) (Z := Z) (V := V) hlt)
      simp only [lineK] at HS
      have hown2 := own_later HO.out hB1
      have hB2 := HB.out.trans (hB1.mono HB.out.size)
      clear HO HB hB1 hS8 hH e1 e2 e3 e4 e5 e6
      generalize X + pF ((k : Int) * (Z - X)) n = x at *
      generalize Y + pF ((k : Int) * (V - Y)) n = y at *
      refine ordS_one (i := 26) (o := { dst := some 42, op := Op.buildSlice 27 1 #[(0, Operand.tmp 41)], type := 27, pos := _, after := #[{ on := 25, ground := Ground.data }], guard := none }) (by kernel_rfl) rfl (by rfl) (fun K hK => ?_)
      go_simp
      have hb := bl_al (bl0 w9) (.cells #[.int .i64 x, .int .i64 y] 37)
      replace s0 := cell_later hb s0; replace s1 := cell_later hb s1; replace s2 := cell_later hb s2; replace s3 := cell_later hb s3
      refine hK _ _ ⟨s0, s1, s2, s3⟩ ?_
      clear hK K hb
      try simp only [Act.put, List.setIfInBounds_toArray, List.set_cons_zero, List.set_cons_succ]
      have hlk : ((lineF X Y Z V n).take k).length = k := by rw [List.length_take, lineF_len]; omega
      refine ordS_append (i := 27) (o := { dst := some 43, op := Op.call { callee := Callee.builtin Builtin.append, args := #[Operand.tmp 16, Operand.tmp 42], argTypes := #[27, 27] }, type := 27, pos := _, after := #[{ on := 0, ground := Ground.data }, { on := 26, ground := Ground.data }, { on := 23, ground := Ground.chain }], guard := none }) _ (by kernel_rfl) rfl (by rfl) _ _ 27 rfl w1.heap.size 37 i0 (.agg #[.int .i64 0, .int .i64 0]) 2 16 Try.underlying27 hi hz0 hz1 hz2 rfl (by decide) _ _ _ rfl (hown2.alloc _) ⟨w9.heap.size, 0, none⟩ 1 1 [.int .i64 x, .int .i64 y] rfl rfl ?c1 ?c2 ?c3 ?c4 ?c5 ?_
      case c1 => exact cell_two_new _ _ _ _
      case c2 => intro u hu; simp at hu; rcases hu with rfl | rfl <;> rfl
      case c3 => unfold maxLen; omega
      case c4 => omega
      case c5 => (have := hB2.size; first | (simp; omega) | omega)
      intro v' w10 hown' hgrow
      have hB3 : Below w1.heap.size w1 w10 := (bl_al hB2 _).grown hgrow (by have := hB2.size; simp; omega) (fun j hj => by have := (hown2.lt j hj).1; omega)
      have hS10 : (fun w' => w'.cell? ⟨w.heap.size, 0, none⟩ = some (.int .i64 X) ∧ w'.cell? ⟨w.heap.size, 1, none⟩ = some (.int .i64 Y) ∧ w'.cell? ⟨w.heap.size + 1, 0, none⟩ = some (.int .i64 Z) ∧ w'.cell? ⟨w.heap.size + 1, 1, none⟩ = some (.int .i64 V)) w10 := ⟨cell_later hB3 a0, cell_later hB3 a1, cell_later hB3 b0, cell_later hB3 b1⟩
      refine ⟨hS10, ?_⟩
      try simp only [Act.put, List.setIfInBounds_toArray, List.set_cons_zero, List.set_cons_succ]
      first
        | (refine' ordS_take (i := 28) (oi := { dst := some 6, op := Op.assign (Operand.tmp 43), type := 27, pos := _, after := #[{ on := 27, ground := Ground.data }, { on := 27, ground := Ground.chain }, { on := 0, ground := Ground.phase }, { on := 1, ground := Ground.phase }, { on := 2, ground := Ground.phase }, { on := 3, ground := Ground.phase }, { on := 4, ground := Ground.phase }, { on := 5, ground := Ground.phase }, { on := 6, ground := Ground.phase }, { on := 7, ground := Ground.phase }, { on := 8, ground := Ground.phase }, { on := 9, ground := Ground.phase }, { on := 10, ground := Ground.phase }, { on := 11, ground := Ground.phase }, { on := 12, ground := Ground.phase }, { on := 13, ground := Ground.phase }, { on := 14, ground := Ground.phase }, { on := 15, ground := Ground.phase }, { on := 16, ground := Ground.phase }, { on := 17, ground := Ground.phase }, { on := 18, ground := Ground.phase }, { on := 19, ground := Ground.phase }, { on := 20, ground := Ground.phase }, { on := 21, ground := Ground.phase }, { on := 22, ground := Ground.phase }, { on := 23, ground := Ground.phase }, { on := 24, ground := Ground.phase }, { on := 25, ground := Ground.phase }, { on := 26, ground := Ground.phase }, { on := 27, ground := Ground.phase }], guard := none }) (v := _) rfl (by kernel_rfl) (by kernel_rfl) (by kernel_rfl) (by kernel_rfl) (fun _ _ _ h => h) (by assumption) (Or.inl ⟨by rfl, ?hy25⟩) (fun _ => rfl) ?rest25
           case hy25 => (intro w hSw; (try dsimp only at hSw); go_simp; try with_reducible rfl))
        | (refine ordS_take (i := 28) (oi := { dst := some 6, op := Op.assign (Operand.tmp 43), type := 27, pos := _, after := #[{ on := 27, ground := Ground.data }, { on := 27, ground := Ground.chain }, { on := 0, ground := Ground.phase }, { on := 1, ground := Ground.phase }, { on := 2, ground := Ground.phase }, { on := 3, ground := Ground.phase }, { on := 4, ground := Ground.phase }, { on := 5, ground := Ground.phase }, { on := 6, ground := Ground.phase }, { on := 7, ground := Ground.phase }, { on := 8, ground := Ground.phase }, { on := 9, ground := Ground.phase }, { on := 10, ground := Ground.phase }, { on := 11, ground := Ground.phase }, { on := 12, ground := Ground.phase }, { on := 13, ground := Ground.phase }, { on := 14, ground := Ground.phase }, { on := 15, ground := Ground.phase }, { on := 16, ground := Ground.phase }, { on := 17, ground := Ground.phase }, { on := 18, ground := Ground.phase }, { on := 19, ground := Ground.phase }, { on := 20, ground := Ground.phase }, { on := 21, ground := Ground.phase }, { on := 22, ground := Ground.phase }, { on := 23, ground := Ground.phase }, { on := 24, ground := Ground.phase }, { on := 25, ground := Ground.phase }, { on := 26, ground := Ground.phase }, { on := 27, ground := Ground.phase }], guard := none }) (v := undef) rfl (by kernel_rfl) (by kernel_rfl) (by kernel_rfl) (by kernel_rfl) (fun _ _ _ h => h) (by assumption) (Or.inr ⟨by rfl, rfl⟩) (fun _ => rfl) ?_)
      try simp only [Act.put, List.setIfInBounds_toArray, List.set_cons_zero, List.set_cons_succ]
      refine ordS_done (by kernel_rfl) ?_
      rw [← flatC_snoc ((lineF X Y Z V n).take k) (x, y), ← HS.out] at hown'
      clear hgrow hown2 hB2 HS s0 s1 s2 s3 hS9 hS10
      go_wp2
      go_roundw
      case rel => exact ⟨k + 1, by omega, by go_num, hown', hB3⟩
      case measure => simp [intOf]; omega
    · have hge : (n : Int) < (k : Int) := by omega
      have hall := lineF_all (X := X) (Y := Y) (Z := Z) (V := V) (n := n) (k := k) (by omega)
      have hkn : k = (lineF X Y Z V n).length := by rw [lineF_len]; omega
      have hown := HO.out
      rw [hall] at hown
      clear hk
      go_wp2
      go_ret
      rw [hkn] at hown
      obtain ⟨a', cap', rfl, hrc⟩ := rowC_of_own hown
      exact ⟨a', cap', rfl, own_cap hown, hrc, hA.trans (HB.out.mono hA.size)⟩
theorem rline_any (X Y Z V : Int) (n : Nat) (w : World) (hX : plainB X Y = true) (hZ : plainB Z V = true) (hf : max (apartI X Z) (apartI Y V) = n) (hn : n ≤ 512) :
    Calls Try.prog 94 #[.agg #[.int .i64 X, .int .i64 Y], .agg #[.int .i64 Z, .int .i64 V]] w fun e w' => ∃ a cap, e = .returned (.slice a (lineF X Y Z V n).length cap) ∧ RowC w' a (lineF X Y Z V n) ∧ Below w.heap.size w w' :=
  (rline_cap X Y Z V n w hX hZ hf hn).mono (by
    rintro e w' ⟨a, cap, h1, _, h2, h3⟩
    exact ⟨a, cap, h1, h2, h3⟩)

theorem take_sameC {xs ys : List (Int × Int)} {k : Nat} (hk : k < xs.length) (hk2 : k < ys.length) (h : xs.take k = ys.take k) (e : xs[k] = ys[k]) : xs.take (k + 1) = ys.take (k + 1) := by
  rw [List.take_succ_eq_append_getElem hk, List.take_succ_eq_append_getElem hk2, h, e]
theorem take_allC {xs ys : List (Int × Int)} {k : Nat} (h1 : xs.length ≤ k) (h2 : xs.length = ys.length) (h : xs.take k = ys.take k) : xs = ys := by
  rw [List.take_of_length_le h1, List.take_of_length_le (by omega)] at h
  exact h
set_option maxHeartbeats 2000000 in
theorem samec_any (a a2 : Option Addr) (cap cap2 : Nat) (xs ys : List (Int × Int)) (w : World) (hr : RowC w a xs) (hr2 : RowC w a2 ys) (hl : xs.length ≤ 100000) :
    Calls Try.prog 60 #[.slice a xs.length cap, .slice a2 ys.length cap2] w fun e w' => e = .returned (.bool (decide (xs = ys))) ∧ Below w.heap.size w w' := by
  have hl2 : (xs.length : Int) ≤ 100000 := by omega
  by_cases he : xs.length = ys.length
  · have h1 : ((xs.length : Int) != (ys.length : Int)) = false := by rw [bne_eq_false_iff_eq]; omega
    have HE := Lib.hid he
    clear he
    have hA0 := bl0 w
    go_enter Try.func60, Try.ntmps60
    go_wp2
    go_loopw [5] (fun i wr => ∃ k : Nat, k ≤ xs.length ∧ i = .int .i64 k ∧ xs.take k = ys.take k ∧ Below w.heap.size w wr) (fun i _ => xs.length - (intOf i).toNat)
    case atStart => exact ⟨0, Nat.zero_le _, rfl, rfl, hA0⟩
    case round =>
      obtain ⟨k, hk, rfl, ht, hB⟩ := hrel
      have HT := Lib.hid ht
      clear hA0 ht
      by_cases hlt : k < xs.length
      · have hlt2 : (k : Int) < (xs.length : Int) := by omega
        have hk0 : (0 : Int) ≤ (k : Int) := by omega
        have hlty : k < ys.length := by rw [← HE.out]; exact hlt
        obtain ⟨gb, go, rfl, q0, q1⟩ := hr.cell hlt
        obtain ⟨gb2, go2, rfl, r0, r1⟩ := hr2.cell hlty
        replace q0 := cell_later hB q0
        replace q1 := cell_later hB q1
        replace r0 := cell_later hB r0
        replace r1 := cell_later hB r1
        have hlty2 : (k : Int) < (ys.length : Int) := by omega
        clear hr hr2
        by_cases hx : xs[k] = ys[k]
        · have HS := Lib.hid (take_sameC hlt hlty HT.out hx)
          rw [← hx] at r0 r1
          clear hx
          generalize xs[k].1 = x at *
          generalize xs[k].2 = y at *
          have b1 := beq_self_eq_true x
          have b2 := beq_self_eq_true y
          go_wp2
          go_quiet (fail)
          go_wp2
          go_roundw
          case rel => exact ⟨k + 1, by omega, by go_num, HS.out, bl_tr hB (bl_drn _ _)⟩
          case measure => simp [intOf]; omega
        · have HS := Lib.hid (show xs ≠ ys by rintro rfl; exact hx rfl)
          by_cases h2 : xs[k].1 = ys[k].1
          · have h3 : (xs[k].2 == ys[k].2) = false := by rw [beq_eq_false_iff_ne]; exact fun e => hx (Prod.ext h2 e)
            rw [← h2] at r0
            clear hx h2
            generalize xs[k].1 = x at *
            generalize xs[k].2 = y at *
            generalize ys[k].2 = y' at *
            have b1 := beq_self_eq_true x
            go_wp2
            go_quiet (fail)
            go_wp2
            go_ret
            exact ⟨ret_bool (by simp [HS.out]), bl_tr hB (bl_drn _ _)⟩
          · have h3 : (xs[k].1 == ys[k].1) = false := by rw [beq_eq_false_iff_ne]; exact h2
            clear hx h2
            generalize xs[k].1 = x at *
            generalize xs[k].2 = y at *
            generalize ys[k].1 = x' at *
            generalize ys[k].2 = y' at *
            go_wp2
            go_quiet (fail)
            go_wp2
            go_ret
            exact ⟨ret_bool (by simp [HS.out]), bl_tr hB (bl_drn _ _)⟩
      · have hge : (xs.length : Int) ≤ (k : Int) := by omega
        have HS := Lib.hid (take_allC (by omega) HE.out HT.out)
        go_wp2
        go_ret
        exact ⟨ret_bool (by simp [HS.out]), hB⟩
  · have h1 : ((xs.length : Int) != (ys.length : Int)) = true := by rw [bne_iff_ne]; omega
    have HE := Lib.hid (show xs ≠ ys from fun e => he (by rw [e]))
    clear he
    go_enter Try.func60, Try.ntmps60
    go_wp2
    go_ret
    exact ⟨ret_bool (by simp [HE.out]), bl0 _⟩
end Go.Proofs.Ythebiibiapjdiaa

/- Rows of costs in memory; whether a field is right, whether two are the same. -/
namespace Go.Proofs.Ythebiibiapjdiaa
open Go.RowKit

/-- A row of costs in memory. -/
def RowH (W : World) (a : Option Addr) (zs : List Int) : Prop :=
  zs = [] ∨ ∃ b o, a = some ⟨b, o, none⟩ ∧ ∀ i z, zs[i]? = some z → W.cell? ⟨b, o + i, none⟩ = some (.int .u16 z)
theorem RowH.below {W W' : World} {a : Option Addr} {zs : List Int} (h : RowH W a zs) (hb : Below W.heap.size W W') : RowH W' a zs := by
  rcases h with h | ⟨b, o, h1, h2⟩
  · exact .inl h
  · exact .inr ⟨b, o, h1, fun i z hz => cell_later hb (h2 i z hz)⟩
theorem RowH.cell {W : World} {a : Option Addr} {zs : List Int} (h : RowH W a zs) {k : Nat} (hk : k < zs.length) : ∃ b o, a = some ⟨b, o, none⟩ ∧ W.cell? ⟨b, o + k, none⟩ = some (.int .u16 zs[k]) := by
  rcases h with rfl | ⟨b, o, h1, h2⟩
  · simp at hk
  · exact ⟨b, o, h1, h2 k _ (List.getElem?_eq_getElem hk)⟩
def inH (z : Int) : Prop := 0 ≤ z ∧ z ≤ 65535
def AllH (zs : List Int) : Prop := ∀ z ∈ zs, inH z
theorem AllH.at {l : List Int} (h : AllH l) {k : Nat} (hk : k < l.length) : inH l[k] := h _ (List.getElem_mem hk)

theorem take_same {xs ys : List Int} {k : Nat} (hk : k < xs.length) (hk2 : k < ys.length) (h : xs.take k = ys.take k) (e : xs[k] = ys[k]) : xs.take (k + 1) = ys.take (k + 1) := by
  rw [List.take_succ_eq_append_getElem hk, List.take_succ_eq_append_getElem hk2, h, e]
theorem take_all {xs ys : List Int} {k : Nat} (h1 : xs.length ≤ k) (h2 : xs.length = ys.length) (h : xs.take k = ys.take k) : xs = ys := by
  rw [List.take_of_length_le h1, List.take_of_length_le (by omega)] at h
  exact h
theorem not_same_at {xs ys : List Int} {k : Nat} (hk : k < xs.length) (hk2 : k < ys.length) (e : xs[k] ≠ ys[k]) : xs ≠ ys := by
  rintro rfl
  exact e rfl

set_option maxHeartbeats 2000000 in
theorem equal_any (a a2 : Option Addr) (cap cap2 : Nat) (xs ys : List Int) (w : World) (hr : RowH w a xs) (hr2 : RowH w a2 ys) (hl : xs.length ≤ 140737488355328) :
    Calls Try.prog 85 #[.slice a xs.length cap, .slice a2 ys.length cap2] w fun e w' => e = .returned (.bool (decide (xs = ys))) ∧ Below w.heap.size w w' := by
  have hl2 : (xs.length : Int) ≤ 140737488355328 := by omega
  by_cases he : xs.length = ys.length
  · have h1 : ((xs.length : Int) != (ys.length : Int)) = false := by rw [bne_eq_false_iff_eq]; omega
    have HE := Lib.hid he
    clear he
    have hA0 := bl0 w
    go_enter Try.func85, Try.ntmps85
    go_wp2
    go_loopw [5, 13] (fun _ i wr => ∃ k : Nat, k ≤ xs.length ∧ i = .int .i64 k ∧ xs.take k = ys.take k ∧ Below w.heap.size w wr) (fun _ i _ => xs.length - (intOf i).toNat)
    case atStart => exact ⟨0, Nat.zero_le _, rfl, rfl, hA0⟩
    case round =>
      obtain ⟨k, hk, rfl, ht, hB⟩ := hrel
      have HT := Lib.hid ht
      clear hA0 ht
      by_cases hlt : k < xs.length
      · have hlt2 : (k : Int) < (xs.length : Int) := by omega
        have hk0 : (0 : Int) ≤ (k : Int) := by omega
        have hlty : k < ys.length := by rw [← HE.out]; exact hlt
        obtain ⟨gb, go, rfl, q⟩ := hr.cell hlt
        obtain ⟨gb2, go2, rfl, q2⟩ := hr2.cell hlty
        replace q := cell_later hB q
        replace q2 := cell_later hB q2
        have hlty2 : (k : Int) < (ys.length : Int) := by omega
        clear hr hr2
        by_cases hx : xs[k] = ys[k]
        · have HS := Lib.hid (take_same hlt hlty HT.out hx)
          have hx2 : (xs[k] != ys[k]) = false := by rw [bne_eq_false_iff_eq]; exact hx
          clear hx
          generalize xs[k] = x at *
          generalize ys[k] = y at *
          go_wp2
          go_quiet (fail)
          go_wp2
          go_roundw
          case rel => exact ⟨k + 1, by omega, by go_num, HS.out, bl_tr hB (bl_drn _ _)⟩
          case measure => simp [intOf]; omega
        · have HS := Lib.hid (not_same_at hlt hlty hx)
          have hx2 : (xs[k] != ys[k]) = true := by rw [bne_iff_ne]; exact hx
          clear hx
          generalize xs[k] = x at *
          generalize ys[k] = y at *
          go_wp2
          go_quiet (fail)
          go_wp2
          go_ret
          exact ⟨ret_bool (by simp [HS.out]), bl_tr hB (bl_drn _ _)⟩
      · have hge : (xs.length : Int) ≤ (k : Int) := by omega
        have HS := Lib.hid (take_all (by omega) HE.out HT.out)
        go_wp2
        go_ret
        exact ⟨ret_bool (by simp [HS.out]), hB⟩
  · have h1 : ((xs.length : Int) != (ys.length : Int)) = true := by rw [bne_iff_ne]; omega
    have HE := Lib.hid (show xs ≠ ys from fun e => he (by rw [e]))
    clear he
    go_enter Try.func85, Try.ntmps85
    go_wp2
    go_ret
    exact ⟨ret_bool (by simp [HE.out]), bl0 _⟩

/-- Whether a field is right. -/
def chkF (W H n : Int) : Int := if mayB W H then (if n = W * H then 0 else 12) else 10
theorem area_bd {W H : Int} (h : mayB W H = true) : 1 ≤ W * H ∧ W * H ≤ 65536 := by
  obtain ⟨h1, h2, h3, h4⟩ := mayB_iff.1 h
  refine ⟨?_, by have a : W * H ≤ 256 * H := Int.mul_le_mul_of_nonneg_right h2 (by omega); omega⟩
  have := Int.mul_le_mul h1 h3 (by omega) (by omega)
  omega
set_option maxHeartbeats 2000000 in
theorem check_any (W H : Int) (a : Option Addr) (n c : Nat) (w : World) :
    Calls Try.prog 23 #[.agg #[.int .i64 W, .int .i64 H, .slice a n c]] w fun e w' => e = .returned (.int .i64 (chkF W H n)) ∧ Below w.heap.size w w' := by
  cases hm : mayB W H
  · have hc : chkF W H n = 10 := by unfold chkF; rw [if_neg (by rw [hm]; decide)]
    rw [hc]
    clear hc
    go_enter Try.func23, Try.ntmps23
    go_wp2_with (go_at_call 51; refine (may_any _ _ _).mono ?_; rintro e w' ⟨rfl, hb⟩; obtain ⟨hcc, hf⟩ := bcell hb)
    go_ret
    exact ⟨rfl, bl_tr (bl_al (bl0 _) _) hb⟩
  · obtain ⟨b1, b2⟩ := area_bd hm
    by_cases hn : (n : Int) = W * H
    · have hc : chkF W H n = 0 := by unfold chkF; rw [if_pos hm, if_pos hn]
      have hn2 : ((n : Int) != W * H) = false := by rw [bne_eq_false_iff_eq]; exact hn
      rw [hc]
      clear hc hn
      go_enter Try.func23, Try.ntmps23
      go_wp2_with (go_at_call 51; refine (may_any _ _ _).mono ?_; rintro e w' ⟨rfl, hb⟩; obtain ⟨hcc, hf⟩ := bcell hb)
      go_ret
      exact ⟨rfl, bl_tr (bl_al (bl0 _) _) hb⟩
    · have hc : chkF W H n = 12 := by unfold chkF; rw [if_pos hm, if_neg hn]
      have hn2 : ((n : Int) != W * H) = true := by rw [bne_iff_ne]; exact hn
      rw [hc]
      clear hc hn
      go_enter Try.func23, Try.ntmps23
      go_wp2_with (go_at_call 51; refine (may_any _ _ _).mono ?_; rintro e w' ⟨rfl, hb⟩; obtain ⟨hcc, hf⟩ := bcell hb)
      go_ret
      exact ⟨rfl, bl_tr (bl_al (bl0 _) _) hb⟩

set_option maxHeartbeats 2000000 in
theorem rcheck_any (W H : Int) (a : Option Addr) (n c : Nat) (w : World) :
    Calls Try.prog 17 #[.agg #[.int .i64 W, .int .i64 H, .slice a n c]] w fun e w' => e = .returned (.int .i64 (chkF W H n)) ∧ Below w.heap.size w w' := by
  cases hm : mayB W H
  · have hc : chkF W H n = 10 := by unfold chkF; rw [if_neg (by rw [hm]; decide)]
    rw [hc]
    clear hc
    go_enter Try.func17, Try.ntmps17
    go_wp2_with (go_at_call 59; refine (rmay_any _ _ _).mono ?_; rintro e w' ⟨rfl, hb⟩; obtain ⟨hcc, hf⟩ := bcell hb)
    go_ret
    exact ⟨rfl, bl_tr (bl_al (bl0 _) _) hb⟩
  · obtain ⟨b1, b2⟩ := area_bd hm
    by_cases hn : (n : Int) = W * H
    · have hc : chkF W H n = 0 := by unfold chkF; rw [if_pos hm, if_pos hn]
      have hn2 : ((n : Int) != W * H) = false := by rw [bne_eq_false_iff_eq]; exact hn
      rw [hc]
      clear hc hn
      go_enter Try.func17, Try.ntmps17
      go_wp2_with (go_at_call 59; refine (rmay_any _ _ _).mono ?_; rintro e w' ⟨rfl, hb⟩; obtain ⟨hcc, hf⟩ := bcell hb)
      go_ret
      exact ⟨rfl, bl_tr (bl_al (bl0 _) _) hb⟩
    · have hc : chkF W H n = 12 := by unfold chkF; rw [if_pos hm, if_neg hn]
      have hn2 : ((n : Int) != W * H) = true := by rw [bne_iff_ne]; exact hn
      rw [hc]
      clear hc hn
      go_enter Try.func17, Try.ntmps17
      go_wp2_with (go_at_call 59; refine (rmay_any _ _ _).mono ?_; rintro e w' ⟨rfl, hb⟩; obtain ⟨hcc, hf⟩ := bcell hb)
      go_ret
      exact ⟨rfl, bl_tr (bl_al (bl0 _) _) hb⟩
end Go.Proofs.Ythebiibiapjdiaa

/- Whether two fields are the same; whether one is small. -/
namespace Go.Proofs.Ythebiibiapjdiaa
open Go.RowKit

set_option maxHeartbeats 2000000 in
theorem same_yes (W H : Int) (a a2 : Option Addr) (c c2 : Nat) (xs ys : List Int) (w : World) (hr : RowH w a xs) (hr2 : RowH w a2 ys) (hl : xs.length ≤ 140737488355328) :
    Calls Try.prog 53 #[.agg #[.int .i64 W, .int .i64 H, .slice a xs.length c], .agg #[.int .i64 W, .int .i64 H, .slice a2 ys.length c2]] w fun e w' => e = .returned (.bool (decide (xs = ys))) ∧ Below w.heap.size w w' := by
  have hb1 := bl_al (bl_al (bl0 w) (.cells #[.int .i64 W, .int .i64 H, .slice a xs.length c] 26)) (.cells #[.int .i64 W, .int .i64 H, .slice a2 ys.length c2] 26)
  replace hr := hr.below hb1
  replace hr2 := hr2.below hb1
  go_enter Try.func53, Try.ntmps53
  go_wp2_with fail
  refine (equal_any a a2 c c2 xs ys _ hr hr2 hl).mono ?_
  rintro e w1 ⟨rfl, hB⟩
  go_wp2
  go_ret
  exact ⟨rfl, bl_tr hb1 hB⟩

/-- Whether two fields are the same. -/
def sameF (W H : Int) (xs : List Int) (U V : Int) (ys : List Int) : Bool := decide (W = U ∧ H = V ∧ xs = ys)
set_option maxHeartbeats 2000000 in
theorem same_any (W H U V : Int) (a a2 : Option Addr) (c c2 : Nat) (xs ys : List Int) (w : World) (hr : RowH w a xs) (hr2 : RowH w a2 ys) (hl : xs.length ≤ 140737488355328) :
    Calls Try.prog 53 #[.agg #[.int .i64 W, .int .i64 H, .slice a xs.length c], .agg #[.int .i64 U, .int .i64 V, .slice a2 ys.length c2]] w fun e w' => e = .returned (.bool (sameF W H xs U V ys)) ∧ Below w.heap.size w w' := by
  by_cases h1 : W = U
  · subst h1
    by_cases h2 : H = V
    · subst h2
      refine (same_yes W H a a2 c c2 xs ys w hr hr2 hl).mono ?_
      rintro e w' ⟨rfl, hb⟩
      exact ⟨ret_bool (by simp [sameF]), hb⟩
    · have h3 : (H == V) = false := by rw [beq_eq_false_iff_ne]; exact h2
      have h4 : sameF W H xs W V ys = false := by simp [sameF, h2]
      rw [h4]
      clear h2 h4
      go_enter Try.func53, Try.ntmps53
      go_wp2
      go_ret
      exact ⟨rfl, bl_al (bl_al (bl0 _) _) _⟩
  · have h3 : (W == U) = false := by rw [beq_eq_false_iff_ne]; exact h1
    have h4 : sameF W H xs U V ys = false := by simp [sameF, h1]
    rw [h4]
    clear h1 h4
    go_enter Try.func53, Try.ntmps53
    go_wp2
    go_ret
    exact ⟨rfl, bl_al (bl_al (bl0 _) _) _⟩

set_option maxHeartbeats 2000000 in
theorem rsame_yes (W H : Int) (a a2 : Option Addr) (c c2 : Nat) (xs ys : List Int) (w : World) (hr : RowH w a xs) (hr2 : RowH w a2 ys) (hl : xs.length ≤ 140737488355328) (he : xs.length = ys.length) :
    Calls Try.prog 48 #[.agg #[.int .i64 W, .int .i64 H, .slice a xs.length c], .agg #[.int .i64 W, .int .i64 H, .slice a2 ys.length c2]] w fun e w' => e = .returned (.bool (decide (xs = ys))) ∧ Below w.heap.size w w' := by
  have hb1 := bl_al (bl_al (bl0 w) (.cells #[.int .i64 W, .int .i64 H, .slice a xs.length c] 26)) (.cells #[.int .i64 W, .int .i64 H, .slice a2 ys.length c2] 26)
  obtain ⟨w0, hw0⟩ : ∃ w0, (w.alloc (.cells #[.int .i64 W, .int .i64 H, .slice a xs.length c] 26)).alloc (.cells #[.int .i64 W, .int .i64 H, .slice a2 ys.length c2] 26) = w0 := ⟨_, rfl⟩
  rw [hw0] at hb1
  have k1 : w0.cell? ⟨w.heap.size, 2, none⟩ = some (.slice a xs.length c) := by rw [← hw0]; simp [go_sem]
  have k2 : w0.cell? ⟨w.heap.size + 1, 2, none⟩ = some (.slice a2 ys.length c2) := by rw [← hw0]; simp [go_sem]
  replace hr := hr.below hb1
  replace hr2 := hr2.below hb1
  have h1 : ((xs.length : Int) != (ys.length : Int)) = false := by rw [bne_eq_false_iff_eq]; omega
  have hl2 : (xs.length : Int) ≤ 140737488355328 := by omega
  have HE := Lib.hid he
  have HW := Lib.hid hw0
  clear he hw0
  go_enter Try.func48, Try.ntmps48
  go_wp2
  rw [HW.out]
  go_loopw [5] (fun i wr => ∃ k : Nat, k ≤ xs.length ∧ i = .int .i64 k ∧ xs.take k = ys.take k ∧ Below w0.heap.size w0 wr) (fun i _ => xs.length - (intOf i).toNat)
  case atStart => exact ⟨0, Nat.zero_le _, rfl, rfl, bl0 _⟩
  case round =>
    obtain ⟨k, hk, rfl, ht, hB⟩ := hrel
    have HT := Lib.hid ht
    clear ht
    replace k1 := cell_later hB k1
    replace k2 := cell_later hB k2
    by_cases hlt : k < xs.length
    · have hlt2 : (k : Int) < (xs.length : Int) := by omega
      have hk0 : (0 : Int) ≤ (k : Int) := by omega
      have hlty : k < ys.length := by rw [← HE.out]; exact hlt
      obtain ⟨gb, go, rfl, q⟩ := hr.cell hlt
      obtain ⟨gb2, go2, rfl, q2⟩ := hr2.cell hlty
      replace q := cell_later hB q
      replace q2 := cell_later hB q2
      have hlty2 : (k : Int) < (ys.length : Int) := by omega
      clear hr hr2
      by_cases hx : xs[k] = ys[k]
      · have HS := Lib.hid (take_same hlt hlty HT.out hx)
        have hx2 : (xs[k] != ys[k]) = false := by rw [bne_eq_false_iff_eq]; exact hx
        clear hx
        generalize xs[k] = x at *
        generalize ys[k] = y at *
        go_wp2
        go_quiet (fail)
        go_wp2
        go_roundw
        case rel => exact ⟨k + 1, by omega, by go_num, HS.out, bl_tr hB (bl_drn _ _)⟩
        case measure => simp [intOf]; omega
      · have HS := Lib.hid (not_same_at hlt hlty hx)
        have hx2 : (xs[k] != ys[k]) = true := by rw [bne_iff_ne]; exact hx
        clear hx
        generalize xs[k] = x at *
        generalize ys[k] = y at *
        go_wp2
        go_quiet (fail)
        go_wp2
        go_ret
        exact ⟨ret_bool (by simp [HS.out]), bl_tr hb1 (bl_tr hB (bl_drn _ _))⟩
    · have hge : (xs.length : Int) ≤ (k : Int) := by omega
      have HS := Lib.hid (take_all (by omega) HE.out HT.out)
      go_wp2
      go_ret
      exact ⟨ret_bool (by simp [HS.out]), bl_tr hb1 hB⟩

set_option maxHeartbeats 2000000 in
theorem rsame_any (W H U V : Int) (a a2 : Option Addr) (c c2 : Nat) (xs ys : List Int) (w : World) (hr : RowH w a xs) (hr2 : RowH w a2 ys) (hl : xs.length ≤ 140737488355328) :
    Calls Try.prog 48 #[.agg #[.int .i64 W, .int .i64 H, .slice a xs.length c], .agg #[.int .i64 U, .int .i64 V, .slice a2 ys.length c2]] w fun e w' => e = .returned (.bool (sameF W H xs U V ys)) ∧ Below w.heap.size w w' := by
  by_cases h1 : W = U
  · subst h1
    by_cases h2 : H = V
    · subst h2
      by_cases he : xs.length = ys.length
      · refine (rsame_yes W H a a2 c c2 xs ys w hr hr2 hl he).mono ?_
        rintro e w' ⟨rfl, hb⟩
        exact ⟨ret_bool (by simp [sameF]), hb⟩
      · have h3 : ((xs.length : Int) != (ys.length : Int)) = true := by rw [bne_iff_ne]; omega
        have h4 : sameF W H xs W H ys = false := by simp only [sameF, decide_eq_false_iff_not]; rintro ⟨_, _, rfl⟩; exact he rfl
        rw [h4]
        clear he h4
        go_enter Try.func48, Try.ntmps48
        go_wp2
        go_ret
        exact ⟨rfl, bl_al (bl_al (bl0 _) _) _⟩
    · have h3 : (H == V) = false := by rw [beq_eq_false_iff_ne]; exact h2
      have h4 : sameF W H xs W V ys = false := by simp [sameF, h2]
      rw [h4]
      clear h2 h4
      go_enter Try.func48, Try.ntmps48
      go_wp2
      go_ret
      exact ⟨rfl, bl_al (bl_al (bl0 _) _) _⟩
  · have h3 : (W == U) = false := by rw [beq_eq_false_iff_ne]; exact h1
    have h4 : sameF W H xs U V ys = false := by simp [sameF, h1]
    rw [h4]
    clear h1 h4
    go_enter Try.func48, Try.ntmps48
    go_wp2
    go_ret
    exact ⟨rfl, bl_al (bl_al (bl0 _) _) _⟩

/-- Whether a field is small. -/
def smallB (W H n : Int) : Bool := decide (n ≤ 600) && (!mayB W H || (decide (W ≤ 24) && decide (H ≤ 24)))
set_option maxHeartbeats 2000000 in
theorem small_any (W H : Int) (a : Option Addr) (n c : Nat) (w : World) :
    Calls Try.prog 14 #[.agg #[.int .i64 W, .int .i64 H, .slice a n c]] w fun e w' => e = .returned (.bool (smallB W H n)) ∧ Below w.heap.size w w' := by
  by_cases hn : (n : Int) ≤ 600
  · cases hm : mayB W H
    · have h4 : smallB W H n = true := by simp [smallB, hn, hm]
      rw [h4]
      clear h4
      go_enter Try.func14, Try.ntmps14
      go_wp2_with (go_at_call 59; refine (rmay_any _ _ _).mono ?_; rintro e w' ⟨rfl, hb⟩; obtain ⟨hcc, hf⟩ := bcell hb)
      go_ret
      exact ⟨rfl, bl_tr (bl_al (bl0 _) _) hb⟩
    · have h4 : smallB W H n = (decide (W ≤ 24) && decide (H ≤ 24)) := by simp [smallB, hn, hm]
      rw [h4]
      clear h4
      by_cases h5 : W ≤ 24
      · go_enter Try.func14, Try.ntmps14
        go_wp2_with (go_at_call 59; refine (rmay_any _ _ _).mono ?_; rintro e w' ⟨rfl, hb⟩; obtain ⟨hcc, hf⟩ := bcell hb)
        go_ret
        exact ⟨ret_bool (by simp [h5]), bl_tr (bl_al (bl0 _) _) hb⟩
      · go_enter Try.func14, Try.ntmps14
        go_wp2_with (go_at_call 59; refine (rmay_any _ _ _).mono ?_; rintro e w' ⟨rfl, hb⟩; obtain ⟨hcc, hf⟩ := bcell hb)
        go_ret
        exact ⟨ret_bool (by simp; omega), bl_tr (bl_al (bl0 _) _) hb⟩
  · have h4 : smallB W H n = false := by simp [smallB, hn]
    rw [h4]
    clear h4
    go_enter Try.func14, Try.ntmps14
    go_wp2
    go_ret
    exact ⟨rfl, bl_al (bl0 _) _⟩
end Go.Proofs.Ythebiibiapjdiaa

/- What is seen along a line: the mathematics. -/
namespace Go.Proofs.Ythebiibiapjdiaa
open Go.RowKit

/-- Up to the first wall, that is among them. -/
def takeTo (wl : Int × Int → Bool) : List (Int × Int) → List (Int × Int)
  | [] => []
  | c :: r => if wl c then [c] else c :: takeTo wl r
/-- From the first one on, up to the first wall behind it. -/
def walkL (wl : Int × Int → Bool) : List (Int × Int) → List (Int × Int)
  | [] => []
  | c :: r => c :: takeTo wl r
theorem takeTo_free (wl : Int × Int → Bool) : ∀ l : List (Int × Int), (∀ c ∈ l, wl c = false) → takeTo wl l = l
  | [], _ => rfl
  | c :: r, h => by
    rw [takeTo, if_neg (by rw [h c (by simp)]; decide), takeTo_free wl r (fun d hd => h d (by simp [hd]))]
theorem takeTo_stop (wl : Int × Int → Bool) (x : Int × Int) (t : List (Int × Int)) (hx : wl x = true) : ∀ l : List (Int × Int), (∀ c ∈ l, wl c = false) → takeTo wl (l ++ x :: t) = l ++ [x]
  | [], _ => by simp [takeTo, hx]
  | c :: r, h => by
    rw [List.cons_append, takeTo, if_neg (by rw [h c (by simp)]; decide), takeTo_stop wl x t hx r (fun d hd => h d (by simp [hd]))]
    rfl
theorem walk_free {wl : Int × Int → Bool} {l : List (Int × Int)} (h : ∀ c ∈ l.tail, wl c = false) : walkL wl l = l := by
  cases l with
  | nil => rfl
  | cons c r => rw [walkL, takeTo_free wl r h]
theorem walk_stop {wl : Int × Int → Bool} {l pre : List (Int × Int)} {x : Int × Int} (hp : pre ++ [x] <+: l) (h0 : pre ≠ []) (h : ∀ c ∈ pre.tail, wl c = false) (hx : wl x = true) : walkL wl l = pre ++ [x] := by
  obtain ⟨t, rfl⟩ := hp
  cases pre with
  | nil => exact absurd rfl h0
  | cons c r =>
    have e : (c :: r) ++ [x] ++ t = c :: (r ++ x :: t) := by simp
    rw [e, walkL, takeTo_stop wl x t hx r h]
    rfl
theorem walkL_len (wl : Int × Int → Bool) (l : List (Int × Int)) : (walkL wl l).length ≤ l.length := by
  have h : ∀ l : List (Int × Int), (takeTo wl l).length ≤ l.length := by
    intro l
    induction l with
    | nil => simp [takeTo]
    | cons c r ih =>
      rw [takeTo]
      split
      · simp
      · simp; omega
  cases l with
  | nil => simp [walkL]
  | cons c r => simp only [walkL, List.length_cons]; have := h r; omega

/-- All of n steps of n is n, and of none none. -/
theorem pF_all (n : Nat) (k : Int) : pF (k * n) n = if n = 0 then 0 else k := by
  unfold pF
  by_cases h : n = 0
  · simp [h]
  · rw [if_neg (by omega), if_neg h]
    refine (Int.ediv_emod_unique (r := (n : Int)) (by omega)).2 ⟨?_, by omega, by omega⟩ |>.1
    rw [Int.mul_assoc, Int.mul_comm (n : Int) k]
    omega
theorem pF_btw {k n : Nat} {d : Int} (hk : k ≤ n) (hd : -(n : Int) ≤ d ∧ d ≤ n) : (0 ≤ d → 0 ≤ pF (k * d) n ∧ pF (k * d) n ≤ d) ∧ (d ≤ 0 → d ≤ pF (k * d) n ∧ pF (k * d) n ≤ 0) := by
  by_cases h : n = 0
  · have : d = 0 := by omega
    subst this
    simp [pF, h]
  · have h2 : pF (k * d) n = (2 * ((k : Int) * d) + n) / (2 * n) := by unfold pF; rw [if_neg (by omega)]
    rw [h2]
    have hn : (0 : Int) < 2 * n := by omega
    constructor
    · intro h0
      have h3 : 0 ≤ (k : Int) * d := Int.mul_nonneg (by omega) h0
      have h4 : (k : Int) * d ≤ n * d := Int.mul_le_mul_of_nonneg_right (by omega) h0
      refine ⟨Int.ediv_nonneg (by omega) (by omega), ?_⟩
      have h5 : (2 * ((k : Int) * d) + n) / (2 * n) < d + 1 := by
        rw [Int.ediv_lt_iff_lt_mul hn, Int.add_mul]
        have e : d * (2 * (n : Int)) = 2 * (n * d) := by rw [← Int.mul_assoc, Int.mul_comm d 2, Int.mul_assoc, Int.mul_comm d n]
        rw [e]
        omega
      omega
    · intro h0
      have h3 : (k : Int) * d ≤ 0 := Int.mul_nonpos_of_nonneg_of_nonpos (by omega) h0
      have h4 : (n : Int) * d ≤ k * d := Int.mul_le_mul_of_nonpos_right (by omega) h0
      constructor
      · rw [Int.le_ediv_iff_mul_le hn]
        have e : d * (2 * (n : Int)) = 2 * (n * d) := by rw [← Int.mul_assoc, Int.mul_comm d 2, Int.mul_assoc, Int.mul_comm d n]
        rw [e]
        omega
      · have h5 : (2 * ((k : Int) * d) + n) / (2 * n) < 1 := by
          rw [Int.ediv_lt_iff_lt_mul hn]
          omega
        omega

/-- A line between two cells on a map lies on it. -/
theorem line_in {A B X Y Z V : Int} {n : Nat} (h1 : inB A B X Y = true) (h2 : inB A B Z V = true) (hdx : -(n : Int) ≤ Z - X ∧ Z - X ≤ n) (hdy : -(n : Int) ≤ V - Y ∧ V - Y ≤ n) {k : Nat} (hk : k ≤ n) : inB A B (lineK X Y Z V n k).1 (lineK X Y Z V n k).2 = true := by
  obtain ⟨a1, a2, a3, a4, a5, a6, a7, a8⟩ := inB_iff.1 h1
  obtain ⟨b1, b2, b3, b4, b5, b6, b7, b8⟩ := inB_iff.1 h2
  have p := pF_btw hk hdx
  have q := pF_btw hk hdy
  refine inB_iff.2 ⟨a1, a2, a3, a4, ?_, ?_, ?_, ?_⟩
  · show 0 ≤ X + _
    rcases Int.le_total 0 (Z - X) with h | h
    · have := p.1 h; omega
    · have := p.2 h; omega
  · show X + _ < A
    rcases Int.le_total 0 (Z - X) with h | h
    · have := p.1 h; omega
    · have := p.2 h; omega
  · show 0 ≤ Y + _
    rcases Int.le_total 0 (V - Y) with h | h
    · have := q.1 h; omega
    · have := q.2 h; omega
  · show Y + _ < B
    rcases Int.le_total 0 (V - Y) with h | h
    · have := q.1 h; omega
    · have := q.2 h; omega
theorem line_fst (X Y Z V : Int) (n : Nat) : lineK X Y Z V n 0 = (X, Y) := by
  have h : pF 0 (n : Int) = 0 := by
    have := pF_all n 0
    simp at this
    exact this
  simp [lineK, h]
/-- Behind its first cell a line doesn't come back to it. -/
theorem line_away {X Y Z V : Int} {n : Nat} (hf : max (apartI X Z) (apartI Y V) = n) {k : Nat} (h1 : 1 ≤ k) (h2 : k ≤ n) : lineK X Y Z V n k ≠ (X, Y) := by
  intro e
  have e1 : pF (k * (Z - X)) n = 0 := by have := congrArg Prod.fst e; simp only [lineK] at this; omega
  have e2 : pF (k * (V - Y)) n = 0 := by have := congrArg Prod.snd e; simp only [lineK] at this; omega
  have hn : n ≠ 0 := by omega
  have key : ∀ d : Int, d = n ∨ d = -(n : Int) → pF (k * d) n ≠ 0 := by
    rintro d (rfl | rfl)
    · have := pF_all n k
      rw [if_neg hn] at this
      omega
    · have := pF_all n (-(k : Int))
      rw [if_neg hn] at this
      rw [Int.mul_neg, ← Int.neg_mul]
      omega
  unfold apartI at hf
  by_cases h : Z - X = n ∨ Z - X = -(n : Int)
  · exact key _ h e1
  · exact key (V - Y) (by omega) e2
end Go.Proofs.Ythebiibiapjdiaa

/- What is seen along a line: wall, walk. -/
namespace Go.Proofs.Ythebiibiapjdiaa
open Go.RowKit Go.Shelf
attribute [local go_sem] Oper.semAt_some

/-- Whether a cell is a wall, of a map that is A wide. -/
def wallB (A : Int) (zs : List Int) (c : Int × Int) : Bool := zs.getD (c.2 * A + c.1).toNat 1 == 0
theorem wallB_at {A : Int} {zs : List Int} {x y : Int} {j : Nat} (hj : y * A + x = j) (hl : j < zs.length) : wallB A zs (x, y) = (zs[j] == 0) := by
  unfold wallB
  have e : ((x, y).2 * A + (x, y).1).toNat = j := by show (y * A + x).toNat = j; omega
  rw [e]
  simp [hl]
theorem num_of {A B x y : Int} {n : Int} (hi : inB A B x y = true) (hn : n = A * B) : ∃ j : Nat, y * A + x = j ∧ (j : Int) < n := by
  obtain ⟨h1, h2, h3, h4, h5, h6, h7, h8⟩ := inB_iff.1 hi
  obtain ⟨m1, m2⟩ := mul_bd h7 (by omega) h1 h2
  have e : (y + 1) * A ≤ B * A := Int.mul_le_mul_of_nonneg_right (by omega) (by omega)
  rw [Int.add_mul, Int.one_mul, Int.mul_comm B A] at e
  exact ⟨(y * A + x).toNat, by omega, by omega⟩

set_option maxRecDepth 100000 in
set_option maxHeartbeats 2000000 in
theorem wall_yes (A B : Int) (a : Option Addr) (cap : Nat) (zs : List Int) (x y : Int) (w : World) (hr : RowH w a zs) (hi : inB A B x y = true) (hn : (zs.length : Int) = A * B) :
    Calls Try.prog 92 #[.agg #[.int .i64 A, .int .i64 B, .slice a zs.length cap], .agg #[.int .i64 x, .int .i64 y]] w fun e w' => e = .returned (.bool (wallB A zs (x, y))) ∧ Below w.heap.size w w' := by
  obtain ⟨j, hj, hl⟩ := num_of hi hn
  have hl' : j < zs.length := by omega
  rw [wallB_at hj hl']
  have hA := bl0 w
  have hj0 : (0 : Int) ≤ (j : Int) := by omega
  obtain ⟨z, hz⟩ : ∃ z, zs[j] = z := ⟨_, rfl⟩
  rw [hz]
  go_enter Try.func92, Try.ntmps92
  go_wp2_with fail
  refine (index_yes _ _ _ _ _ hi).mono ?_
  rintro e w1 ⟨rfl, hb⟩
  have hk : Below w.heap.size w w1 := by first | exact hb | exact bl_tr (bl_al (bl0 _) _) hb | exact bl_tr (bl_dr (bl_al (bl0 _) _)) hb | exact bl_tr (bl_al (bl_al (bl0 _) _) _) hb | exact bl_tr (bl_dr (bl_al (bl_al (bl0 _) _) _)) hb | exact bl_tr (bl_al (bl_al (bl_al (bl0 _) _) _) _) hb | exact bl_tr (bl_dr (bl_al (bl_al (bl_al (bl0 _) _) _) _)) hb | exact bl_tr (bl_al (bl_al (bl_al (bl_al (bl0 _) _) _) _) _) hb | exact bl_tr (bl_dr (bl_al (bl_al (bl_al (bl_al (bl0 _) _) _) _) _)) hb | exact bl_tr (bl_al (bl_al (bl_al (bl_al (bl_al (bl0 _) _) _) _) _) _) hb | exact bl_tr (bl_dr (bl_al (bl_al (bl_al (bl_al (bl_al (bl0 _) _) _) _) _) _)) hb | exact bl_tr (bl_al (bl_al (bl_al (bl_al (bl_al (bl_al (bl0 _) _) _) _) _) _) _) hb | exact bl_tr (bl_dr (bl_al (bl_al (bl_al (bl_al (bl_al (bl_al (bl0 _) _) _) _) _) _) _)) hb | exact bl_tr (bl_dr (bl0 _)) hb
  replace hA := bl_tr hA hk
  have a0 := cell_later hb (v := .int .i64 A) (a := ⟨w.heap.size, 0, none⟩) (by simp [go_sem])
  have a1 := cell_later hb (v := .int .i64 B) (a := ⟨w.heap.size, 1, none⟩) (by simp [go_sem])
  have a2 := cell_later hb (v := .slice a zs.length cap) (a := ⟨w.heap.size, 2, none⟩) (by simp [go_sem])
  clear hb hk
  have za0 := blk_lt a0
  have za1 := blk_lt a1
  have za2 := blk_lt a2
  rw [hj]
  have hr1 := hr.below hA
  obtain ⟨gb, go, rfl, q⟩ := hr1.cell hl'
  rw [hz] at q
  clear hj hi hn hr hr1
  go_wp2
  go_ret
  exact ⟨rfl, hA⟩

/-- What is seen along a line. -/
def seenF (A : Int) (zs : List Int) (X Y Z V : Int) (n : Nat) : List (Int × Int) := walkL (wallB A zs) (lineF X Y Z V n)

/-- What the loop holds: its row, in a block g, in a box m; what lay ahead lies as it lay. -/
def RowJ (w : World) (m g cp : Nat) (pre : List (Int × Int)) (W : World) : Prop := Below w.heap.size w W ∧ Boxed W m 27 (.slice (some ⟨g, 0, none⟩) pre.length cp) ∧ W.ownsRow w.heap.size 37 2 (.slice (some ⟨g, 0, none⟩) pre.length cp) pre.length (flatC pre)
theorem RowJ.gcells {w : World} {m g cp : Nat} {pre : List (Int × Int)} {W : World} (h : RowJ w m g cp pre W) : ∃ cur, W.heap[g]? = some (.cells cur 37 (0, 0)) := by
  rcases h.2.2.2 with ⟨e, _⟩ | ⟨g', cap, cur, e, _, hg, _⟩
  · cases e
  · cases e; exact ⟨cur, hg⟩
theorem rowJ_grown {w : World} {m g cp : Nat} {pre : List (Int × Int)} {A B : World} {row : Option Nat} (h : RowJ w m g cp pre A) (hg : A.grownBy B row) (hr : ∀ r, row = some r → w.heap.size ≤ r ∧ r ≠ m ∧ r ≠ g) : RowJ w m g cp pre B := by
  refine ⟨h.1.grown hg h.1.size (fun r e => (hr r e).1), h.2.1.kept hg (fun e => (hr m e.symm).2.1 rfl), h.2.2.kept hg (.inr fun e => ?_)⟩
  exact (hr g (by simpa [Value.ownBlock] using e.symm)).2.2 rfl
theorem rowJ_own {n₁ : Nat} {w : World} (hn : w.heap.size ≤ n₁) (m g cp : Nat) : OwnFrom n₁ (RowJ w m g cp) := fun s C D row hs hg hr =>
  rowJ_grown hs hg (fun r e => by
    obtain ⟨h1, o, ho, hc⟩ := hr r e
    refine ⟨Nat.le_trans hn h1, fun e1 => ?_, fun e1 => ?_⟩
    · rw [e1, show C.heap[m]? = _ from hs.2.1] at ho; cases ho; cases hc
    · obtain ⟨cur, hcur⟩ := hs.gcells
      rw [e1, hcur] at ho; cases ho; cases hc)
theorem rowJ_abp {p c : Nat} {w : World} {m g cp : Nat} (hp : w.heap.size ≤ p) (hm : m < p) (hg : g < p) : AbP p c (RowJ w m g cp) := fun s C D row hs hgr hr =>
  rowJ_grown hs hgr (fun r e => ⟨by have := (hr r e).1; omega, by have := (hr r e).1; omega, by have := (hr r e).1; omega⟩)
theorem keeps_below {n : Nat} {A B : World} (h : Below A.heap.size A B) : KeepsFrom n A B := ⟨h.size, fun k _ _ hk _ => (h.block k (Array.getElem?_eq_some_iff.1 hk).1).trans hk⟩
theorem kp_appended {p c m g : Nat} {W w1 : World} {tmp : Obj} {u : Value} (hgrow : (W.alloc tmp).grownBy w1 (some g)) (hm : m < p) (hg : g < p) (hp : p + c ≤ W.heap.size) : KP p c W (w1.setCell ⟨m, 0, none⟩ u) := by
  have hz := hgrow.size
  rw [World.size_alloc] at hz
  refine ⟨by simp; omega, fun k h1 h2 => ?_⟩
  refine (Below.heap_setCell _ _ _ k (show k ≠ m by omega)).trans ((hgrow.block k (by rw [World.size_alloc]; omega) (fun e => by cases e; omega)).trans (Below.heap_alloc _ _ _ (by omega)))
end Go.Proofs.Ythebiibiapjdiaa

/- What is seen along a line: walk. -/
namespace Go.Proofs.Ythebiibiapjdiaa
open Go.RowKit Go.Shelf
attribute [local go_sem] Oper.semAt_some

theorem in_plain {A B X Y : Int} (h : inB A B X Y = true) : plainB X Y = true := by
  obtain ⟨h1, h2, h3, h4, h5, h6, h7, h8⟩ := inB_iff.1 h
  exact plainB_iff.2 ⟨by omega, by omega, by omega, by omega⟩
theorem far_in {A B X Y Z V : Int} (h1 : inB A B X Y = true) (h2 : inB A B Z V = true) : max (apartI X Z) (apartI Y V) ≤ 255 := by
  obtain ⟨a1, a2, a3, a4, a5, a6, a7, a8⟩ := inB_iff.1 h1
  obtain ⟨b1, b2, b3, b4, b5, b6, b7, b8⟩ := inB_iff.1 h2
  unfold apartI
  omega

set_option maxRecDepth 100000 in
set_option maxHeartbeats 4000000 in
theorem walk_any (A B : Int) (a : Option Addr) (cap : Nat) (zs : List Int) (X Y Z V : Int) (n : Nat) (w : World) (hr : RowH w a zs) (h1 : inB A B X Y = true) (h2 : inB A B Z V = true) (hzn : (zs.length : Int) = A * B) (hf : max (apartI X Z) (apartI Y V) = n) :
    Calls Try.prog 65 #[.agg #[.int .i64 A, .int .i64 B, .slice a zs.length cap], .agg #[.int .i64 X, .int .i64 Y], .agg #[.int .i64 Z, .int .i64 V]] w fun e w' => ∃ b cap2, e = .returned (.slice b (seenF A zs X Y Z V n).length cap2) ∧ RowC w' b (seenF A zs X Y Z V n) ∧ Below w.heap.size w w' := by
  obtain ⟨n', hn', hdx, hdy⟩ := far_nat X Y Z V
  have en : n = n' := by omega
  subst en
  clear hn'
  have hn : n ≤ 255 := by have := far_in h1 h2; omega
  have hX := in_plain h1
  have hZ := in_plain h2
  obtain ⟨i0, hi, hz0, hz1, hz2⟩ := info_parts Try.infoCell
  have hA := bl0 w
  refine (callsIn_wide (n := 11)).1 (callsIn_of_wp_marks Try.func65 rfl trivial ?_ rfl)
  simp only [Try.ntmps65, List.size_toArray, List.length_cons, List.length_nil, Nat.reduceAdd, Nat.reduceSub, Array.replicate_succ, Array.replicate_zero, List.push_toArray, List.append_toArray, List.nil_append, List.cons_append]
  gi_wp2_with fail
  refine ⟨trivial, ?_⟩
  refine (callsIn_wide.2 (far_yes _ _ _ _ _ hX hZ)).mono ?_
  rintro e w1 ⟨rfl, hb⟩
  rw [hf]
  have a0 : w1.cell? ⟨w.heap.size, 0, none⟩ = some (.int .i64 A) := cell_later hb (by simp [go_sem])
  have a1 : w1.cell? ⟨w.heap.size, 1, none⟩ = some (.int .i64 B) := cell_later hb (by simp [go_sem])
  have a2 : w1.cell? ⟨w.heap.size, 2, none⟩ = some (.slice a zs.length cap) := cell_later hb (by simp [go_sem])
  have b0 : w1.cell? ⟨w.heap.size + 1, 0, none⟩ = some (.int .i64 X) := cell_later hb (by simp [go_sem])
  have b1 : w1.cell? ⟨w.heap.size + 1, 1, none⟩ = some (.int .i64 Y) := cell_later hb (by simp [go_sem])
  have c0 : w1.cell? ⟨w.heap.size + 1 + 1, 0, none⟩ = some (.int .i64 Z) := cell_later hb (by simp [go_sem])
  have c1 : w1.cell? ⟨w.heap.size + 1 + 1, 1, none⟩ = some (.int .i64 V) := cell_later hb (by simp [go_sem])
  replace hA := bl_tr (bl_al (bl_al (bl_al hA _) _) _) hb
  have zc := blk_lt c0
  clear hb
  gi_wp2_with (gi_at_make; refine wpListIn_make_own _ rfl _ _ 27 rfl w1.heap.size 37 i0 (.agg #[.int .i64 0, .int .i64 0]) 2 Try.underlying27 hi hz0 hz1 .i64 .i64 _ (n + 1) rfl rfl (by simp) ?b2 ?b3 ?b4 ?_)
  case b2 => rw [hz2]; omega
  case b3 => unfold maxLen; omega
  case b4 => exact Nat.le_refl _
  intro w2 hown hgrow
  have hb2 : Below w1.heap.size w1 w2 := (bl0 w1).grown hgrow (Nat.le_refl _) (fun j hj => by cases hj)
  have hg2 := (hown.lt w1.heap.size rfl).2
  have d0 := cell_later hb2 b0
  have d1 := cell_later hb2 b1
  have d2 := cell_later hb2 c0
  have d3 := cell_later hb2 c1
  have zd0 := blk_lt d0
  have zd2 := blk_lt d2
  gi_wp2_with fail
  obtain ⟨W3, hW3⟩ : ∃ W3, w2.alloc (.cells #[.slice (some ⟨w1.heap.size, 0, none⟩) 0 (n + 1)] 27) = W3 := ⟨_, rfl⟩
  have hz3 : W3.heap.size = w2.heap.size + 1 := by rw [← hW3]; simp
  have hb3 : Below w2.heap.size w2 W3 := by rw [← hW3]; exact bl_al (bl0 _) _
  have hbx : Boxed W3 w2.heap.size 27 (.slice (some ⟨w1.heap.size, 0, none⟩) 0 (n + 1)) := by rw [← hW3]; exact Boxed.new w2 _ _
  have hown3 := own_later hown hb3
  have hB3 := bl_tr hb2 hb3
  rw [hW3]
  clear hW3
  refine ⟨trivial, (callsIn_wide.2 (line_mk _ _ _ _ _ _)).mono ?_⟩
  rintro e W4 ⟨rfl, hL, hz4, hb4⟩
  have hB4 := bl_tr hB3 hb4
  have hJ0 : RowJ w1 w2.heap.size w1.heap.size (n + 1) [] W4 := ⟨hB4, hbx.kept (grown_of_below hb4) (fun e => by cases e), own_later hown3 hb4⟩
  gi_wp2_with fail
  have hL4 : LineAt W4 (w2.heap.size + 1) X Y Z V n := by rw [← hz3]; exact hL
  have hl1 : ∀ k, k ≤ n → inB A B (lineK X Y Z V n k).1 (lineK X Y Z V n k).2 = true := fun k hk => line_in h1 h2 hdx hdy hk
  refine range_q (w2.heap.size + 1) 3 98 _ (lineF X Y Z V n) (iter_line (w2.heap.size + 1) X Y Z V n W4 (by omega) hX hZ hdx hdy hL4) rfl (fun _ => rfl) (by omega) (enters_of Try.func98 (by kernel_rfl) rfl)
    (fun pre W => RowJ w1 w2.heap.size w1.heap.size (n + 1) pre W ∧ W4.heap.size ≤ W.heap.size ∧ ∀ c ∈ pre.tail, wallB A zs c = false) (fun cc pre W => RowJ w1 w2.heap.size w1.heap.size (n + 1) pre W ∧ cc = .exit 0 ∧ seenF A zs X Y Z V n = pre)
    (fun s C D row hs hg hr => ⟨rowJ_own (by omega) _ _ _ s C D row hs.1 hg hr, Nat.le_trans hs.2.1 hg.size, hs.2.2⟩) (fun cc s C D row hs hg hr => ⟨rowJ_own (by omega) _ _ _ s C D row hs.1 hg hr, hs.2⟩)
    (fun s C D row hs hg hr => ⟨rowJ_abp (by omega) (by omega) (by omega) s C D row hs.1 hg hr, Nat.le_trans hs.2.1 hg.size, hs.2.2⟩) (fun cc s C D row hs hg hr => ⟨rowJ_abp (by omega) (by omega) (by omega) s C D row hs.1 hg hr, hs.2⟩)
    ⟨hJ0, Nat.le_refl _, by simp⟩
    (fun x a' W => ∃ Bx, W4.heap.size ≤ Bx ∧ W.cell? ⟨Bx, 0, none⟩ = some (.int .i64 x.1) ∧ W.cell? ⟨Bx, 1, none⟩ = some (.int .i64 x.2) ∧ a' = { tmps := #[.agg #[.int .i64 A, .int .i64 B, .slice a zs.length cap], .agg #[.int .i64 X, .int .i64 Y], .agg #[.int .i64 Z, .int .i64 V], .pointer (some ⟨w.heap.size, 0, none⟩), .pointer (some ⟨w.heap.size + 1, 0, none⟩), .pointer (some ⟨w.heap.size + 1 + 1, 0, none⟩), .slice none 0 0, .int .i64 n, .int .i64 0, .pointer (some ⟨w2.heap.size, 0, none⟩), .pointer (some ⟨Bx, 0, none⟩), .tuple #[.int .i64 n, .int .i64 0], .agg #[.int .i64 X, .int .i64 Y], .agg #[.int .i64 Z, .int .i64 V], .tuple #[.int .i64 n, .int .i64 0], .int .i64 n, .int .i64 0, .int .i64 n, .int .i64 ((n : Int) + 1), .slice (some ⟨w1.heap.size, 0, none⟩) 0 (n + 1), .agg #[.int .i64 X, .int .i64 Y], .agg #[.int .i64 Z, .int .i64 V], .int .i64 n, .func (.func 98) #[] #[.pointer (some ⟨w2.heap.size + 1 + 2, 0, none⟩), .pointer (some ⟨w2.heap.size + 1, 0, none⟩), .pointer (some ⟨w2.heap.size + 1 + 1, 0, none⟩)], .agg #[.int .i64 x.1, .int .i64 x.2], undef, undef, undef, undef, undef, undef, undef, undef, undef, undef, undef, undef, undef], defers := [] })
    ?ax ?assign ?body ?done ?stop
  case ax =>
    rintro c a' _ C D row ⟨Bx, h1, h2, h3, h4⟩ hg' hr
    exact ⟨Bx, h1, cell_kept h2 hg' (fun r e => (hr r e).2), cell_kept h3 hg' (fun r e => (hr r e).2), h4⟩
  case assign =>
    rintro l pre x W K ⟨hi', hWz, hfr⟩ hK
    have hbW := bl_al (bl0 W) (.cells #[.int .i64 x.1, .int .i64 x.2] 37)
    have hK' := hK _ _ (keeps_below hbW) (KP.of_below hbW (by omega)) ⟨rowJ_own (n₁ := W4.heap.size) (by omega) _ _ _ pre W _ none hi' (grown_of_below hbW) (fun r e => by cases e), Nat.le_trans hWz hbW.size, hfr⟩ ⟨W.heap.size, hWz, by simp [go_sem], by simp [go_sem], rfl⟩
    clear hK
    simp [encC]
    gi_wp2
    exact hK'
  case body =>
    rintro l pre ⟨x, y⟩ a' W hWl _ ⟨hJ, hWz, hfr⟩ ⟨Bx, hBx, e0, e1, rfl⟩ hlt
    have hpl : pre.length < n + 1 := by have := hlt.length_le; rw [lineF_len] at this; simp at this; omega
    have hxk : (x, y) = lineK X Y Z V n pre.length := by
      have h1 := hlt.getElem (i := pre.length) (by simp)
      have h2 := lineF_at (X := X) (Y := Y) (Z := Z) (V := V) hpl
      have h3 := List.getElem?_eq_getElem (l := lineF X Y Z V n) (i := pre.length) (by rw [lineF_len]; exact hpl)
      rw [h2] at h3
      simp at h1
      rw [h1]
      exact (Option.some.inj h3).symm
    have hix : inB A B x y = true := by
      have h := hl1 pre.length (by omega)
      rw [← hxk] at h
      exact h
    have hWz1 := hJ.1.size
    have zBx := blk_lt e0
    have hbx := hJ.2.1
    have hrow := hJ.2.2
    have cb := hbx.cell
    have fb := hbx.frozen
    dsimp only at e0 e1
    gi_wp2_with (gi_at_builtin; refine wpListIn_append_fits _ rfl _ _ 27 rfl w1.heap.size 37 i0 2 Try.underlying27 hi hz1 w1.heap.size pre.length (n + 1) (flatC pre) rfl (hrow.alloc _) ⟨W.heap.size, 0, none⟩ 1 1 [.int .i64 x, .int .i64 y] rfl rfl ?c1 ?c2 ?c3 ?_)
    case c1 => exact cell_two_new _ _ _ _
    case c2 => intro u hu; simp at hu; rcases hu with rfl | rfl <;> rfl
    case c3 => omega
    intro w5 hown' hgrow
    obtain ⟨q1, q2, q3, q4, q5⟩ := Boxed.appended hbx (by decide) hrow (by omega) (by omega) hown' hgrow
    have c5 := q1.cell
    have f5 := q1.frozen
    have hKP : KP (w2.heap.size + 1) 3 W _ := kp_appended (u := .slice (some ⟨w1.heap.size, 0, none⟩) (pre.length + 1) (n + 1)) hgrow (m := w2.heap.size) (by omega) (by omega) (by omega)
    have hKB : KP Bx 1 W _ := kp_appended (u := .slice (some ⟨w1.heap.size, 0, none⟩) (pre.length + 1) (n + 1)) hgrow (m := w2.heap.size) (by omega) (by omega) (by omega)
    have t0 := hKB.cell (Nat.le_refl _) (by omega) e0
    have t1 := hKB.cell (Nat.le_refl _) (by omega) e1
    have hB6 := hJ.1.trans q5
    have s0 := cell_later hB6 a0
    have s1 := cell_later hB6 a1
    have s2 := cell_later hB6 a2
    have r0 := cell_later hB6 b0
    have r1 := cell_later hB6 b1
    have hrH := hr.below (hA.trans (hB6.mono hA.size))
    have hJ6 : RowJ w1 w2.heap.size w1.heap.size (n + 1) (pre ++ [(x, y)]) _ := ⟨hB6, by rw [List.length_append]; exact q2, by rw [flatC_snoc, List.length_append]; exact q3⟩
    have HJ := Lib.hid hJ6
    have HK := Lib.hid (q4.from W4.heap.size)
    have HP := Lib.hid hKP
    have HW := Lib.hid (show W4.heap.size ≤ _ from Nat.le_trans hWz hKP.1)
    clear hJ6 hKP hKB hown' hgrow q2 q3 q4 q5 hbx hrow e0 e1 cb fb hJ
    by_cases hp : pre = []
    · have hx0 : x = X ∧ y = Y := by
        have h := line_fst X Y Z V n
        rw [hp] at hxk
        rw [show lineK X Y Z V n 0 = (x, y) from hxk.symm] at h
        exact ⟨congrArg Prod.fst h, congrArg Prod.snd h⟩
      obtain ⟨rfl, rfl⟩ := hx0
      have b1 := beq_self_eq_true x
      have b2 := beq_self_eq_true y
      have HF := Lib.hid (show ∀ c ∈ (pre ++ [(x, y)]).tail, wallB A zs c = false by rw [hp]; simp)
      clear hp hxk hfr hlt
      gi_wp2_with fail
      refine ⟨trivial, ?_⟩
      gi_wp2
      exact ⟨HK.out, HP.out, HJ.out, HW.out, HF.out⟩
    · have hne : (x, y) ≠ (X, Y) := by
        rw [hxk]
        have : 1 ≤ pre.length := List.length_pos_iff.2 hp
        exact line_away hf this (by omega)
      have HS := Lib.hid (show wallB A zs (x, y) = true → seenF A zs X Y Z V n = pre ++ [(x, y)] from fun h => walk_stop hlt hp hfr h)
      have HF := Lib.hid (show wallB A zs (x, y) = false → ∀ c ∈ (pre ++ [(x, y)]).tail, wallB A zs c = false by
        intro h c hc
        rw [List.tail_append_of_ne_nil hp, List.mem_append] at hc
        rcases hc with hc | hc
        · exact hfr c hc
        · simp at hc; rw [hc]; exact h)
      clear hp hxk hfr hlt
      by_cases hx1 : x = X
      · have hy1 : (y == Y) = false := by rw [beq_eq_false_iff_ne]; exact fun e => hne (by rw [hx1, e])
        have b1 : (x == X) = true := by rw [beq_iff_eq]; exact hx1
        clear hx1 hne
        gi_wp2_with fail
        refine ⟨trivial, (CallsIn.inRound l (callsIn_wide.2 (wall_yes A B a cap zs x y _ hrH hix hzn))).mono ?_⟩
        rintro e w9 ⟨rfl, hb9⟩
        have HK9 := Lib.hid (HK.out.trans (keeps_below (n := W4.heap.size) hb9))
        have HP9 := Lib.hid (HP.out.trans (KP.of_below hb9 (by have := HW.out; omega)))
        have HJ9 := Lib.hid (rowJ_grown HJ.out (grown_of_below hb9) (fun r e => by cases e))
        have HW9 := Lib.hid (Nat.le_trans HW.out hb9.size)
        clear HK HP HJ HW hb9
        cases hw : wallB A zs (x, y)
        · have HF9 := HF.out hw
          clear hw HF HS
          gi_wp2
          exact ⟨HK9.out, HP9.out, HJ9.out, HW9.out, HF9⟩
        · have HS9 := HS.out hw
          clear hw HF HS
          gi_wp2
          exact ⟨HK9.out, HP9.out, HJ9.out, rfl, HS9⟩
      · have b1 : (x == X) = false := by rw [beq_eq_false_iff_ne]; exact hx1
        clear hx1 hne
        gi_wp2_with fail
        refine ⟨trivial, (CallsIn.inRound l (callsIn_wide.2 (wall_yes A B a cap zs x y _ hrH hix hzn))).mono ?_⟩
        rintro e w9 ⟨rfl, hb9⟩
        have HK9 := Lib.hid (HK.out.trans (keeps_below (n := W4.heap.size) hb9))
        have HP9 := Lib.hid (HP.out.trans (KP.of_below hb9 (by have := HW.out; omega)))
        have HJ9 := Lib.hid (rowJ_grown HJ.out (grown_of_below hb9) (fun r e => by cases e))
        have HW9 := Lib.hid (Nat.le_trans HW.out hb9.size)
        clear HK HP HJ HW hb9
        cases hw : wallB A zs (x, y)
        · have HF9 := HF.out hw
          clear hw HF HS
          gi_wp2
          exact ⟨HK9.out, HP9.out, HJ9.out, HW9.out, HF9⟩
        · have HS9 := HS.out hw
          clear hw HF HS
          gi_wp2
          exact ⟨HK9.out, HP9.out, HJ9.out, rfl, HS9⟩
  case done =>
    rintro D W hD ⟨hJ, _, hfr⟩ hK
    have cb := hJ.2.1.cell
    obtain ⟨a', cap', e, hrc⟩ := rowC_of_own (ownsRow_putObj hJ.2.2 (.deferred none) hK rfl)
    cases e
    have hs : seenF A zs X Y Z V n = lineF X Y Z V n := walk_free hfr
    gi_wp2
    refine ⟨by simp, .inl ⟨_, _, rfl, run_takeDeferred hK, ?_⟩⟩
    rw [hs]
    exact ⟨_, by simp [results, Try.results65, go_sem]; rfl, _, _, rfl, hrc, (hA.trans (hJ.1.mono hA.size)).grown (grownBy_putObj' W D _) (by have := hJ.1.size; have := hA.size; omega) (fun r e => by cases e; have := hA.size; omega)⟩
  case stop =>
    rintro D cc q W hD hq ⟨hJ, rfl, hs⟩ hK
    have cb := hJ.2.1.cell
    obtain ⟨a', cap', e, hrc⟩ := rowC_of_own (ownsRow_putObj hJ.2.2 (.deferred none) hK rfl)
    cases e
    gi_wp2
    refine ⟨by simp, .inl ⟨_, _, rfl, run_takeDeferred hK, ?_⟩⟩
    rw [hs]
    exact ⟨_, by simp [results, Try.results65, go_sem]; rfl, _, _, rfl, hrc, (hA.trans (hJ.1.mono hA.size)).grown (grownBy_putObj' W D _) (by have := hJ.1.size; have := hA.size; omega) (fun r e => by cases e; have := hA.size; omega)⟩
end Go.Proofs.Ythebiibiapjdiaa

/- What is seen along a line: Walk; the chapter's examples. -/
namespace Go.Proofs.Ythebiibiapjdiaa
open Go.RowKit

/-- What is wrong with a field and two cells. -/
def errW (A B n X Y Z V : Int) : Int := if chkF A B n ≠ 0 then chkF A B n else if (inB A B X Y && inB A B Z V) = true then 0 else 10
theorem errW_ok {A B n X Y Z V : Int} (h : errW A B n X Y Z V = 0) : chkF A B n = 0 ∧ inB A B X Y = true ∧ inB A B Z V = true := by
  unfold errW at h
  split at h
  · rename_i h1
    exact absurd h h1
  · rename_i h1
    split at h
    · rename_i h2
      rw [Bool.and_eq_true] at h2
      exact ⟨by simpa using h1, h2.1, h2.2⟩
    · cases h
theorem chk_area {A B : Int} {n : Int} (h : chkF A B n = 0) : n = A * B := by
  unfold chkF at h
  split at h
  · split at h
    · rename_i hn; exact hn
    · cases h
  · cases h

set_option maxHeartbeats 2000000 in
theorem swalk_no (A B : Int) (a : Option Addr) (m cap : Nat) (X Y Z V : Int) (w : World) (he : errW A B m X Y Z V ≠ 0) :
    Calls Try.prog 32 #[.agg #[.int .i64 A, .int .i64 B, .slice a m cap], .agg #[.int .i64 X, .int .i64 Y], .agg #[.int .i64 Z, .int .i64 V]] w fun e w' => e = .returned (.tuple #[.slice none 0 0, .int .i64 (errW A B m X Y Z V)]) ∧ Below w.heap.size w w' := by
  have hA := bl0 w
  by_cases hc : chkF A B m = 0
  · have HC := Lib.hid hc
    have e10 : errW A B m X Y Z V = 10 := by
      unfold errW at he ⊢
      rw [if_neg (fun h => h hc)] at he ⊢
      split at he
      · exact absurd rfl he
      · rename_i h; rw [if_neg h]
    rw [e10]
    cases h1 : inB A B X Y
    · have H1 := Lib.hid h1
      clear he e10 hc h1
      go_enter Try.func32, Try.ntmps32
      go_wp2_with fail
      refine (check_any _ _ _ _ _ _).mono ?_
      rintro e w1 ⟨rfl, hb⟩
      have hk : Below w.heap.size w w1 := by first | exact hb | exact bl_tr (bl_al (bl0 _) _) hb | exact bl_tr (bl_dr (bl_al (bl0 _) _)) hb | exact bl_tr (bl_al (bl_al (bl0 _) _) _) hb | exact bl_tr (bl_dr (bl_al (bl_al (bl0 _) _) _)) hb | exact bl_tr (bl_al (bl_al (bl_al (bl0 _) _) _) _) hb | exact bl_tr (bl_dr (bl_al (bl_al (bl_al (bl0 _) _) _) _)) hb | exact bl_tr (bl_al (bl_al (bl_al (bl_al (bl0 _) _) _) _) _) hb | exact bl_tr (bl_dr (bl_al (bl_al (bl_al (bl_al (bl0 _) _) _) _) _)) hb | exact bl_tr (bl_al (bl_al (bl_al (bl_al (bl_al (bl0 _) _) _) _) _) _) hb | exact bl_tr (bl_dr (bl_al (bl_al (bl_al (bl_al (bl_al (bl0 _) _) _) _) _) _)) hb | exact bl_tr (bl_al (bl_al (bl_al (bl_al (bl_al (bl_al (bl0 _) _) _) _) _) _) _) hb | exact bl_tr (bl_dr (bl_al (bl_al (bl_al (bl_al (bl_al (bl_al (bl0 _) _) _) _) _) _) _)) hb | exact bl_tr (bl_dr (bl0 _)) hb
      replace hA := bl_tr hA hk
      have f0 := cell_later hb (v := .int .i64 A) (a := ⟨w.heap.size, 0, none⟩) (by simp [go_sem])
      have f1 := cell_later hb (v := .int .i64 B) (a := ⟨w.heap.size, 1, none⟩) (by simp [go_sem])
      have f2 := cell_later hb (v := .slice a m cap) (a := ⟨w.heap.size, 2, none⟩) (by simp [go_sem])
      have a0 := cell_later hb (v := .int .i64 X) (a := ⟨w.heap.size + 1, 0, none⟩) (by simp [go_sem])
      have a1 := cell_later hb (v := .int .i64 Y) (a := ⟨w.heap.size + 1, 1, none⟩) (by simp [go_sem])
      have b0 := cell_later hb (v := .int .i64 Z) (a := ⟨w.heap.size + 1 + 1, 0, none⟩) (by simp [go_sem])
      have b1 := cell_later hb (v := .int .i64 V) (a := ⟨w.heap.size + 1 + 1, 1, none⟩) (by simp [go_sem])
      clear hb hk
      have zf0 := blk_lt f0
      have zf1 := blk_lt f1
      have zf2 := blk_lt f2
      have za0 := blk_lt a0
      have za1 := blk_lt a1
      have zb0 := blk_lt b0
      have zb1 := blk_lt b1
      rw [HC.out]
      go_wp2_with fail
      refine (in_any _ _ _ _ _).mono ?_
      rintro e w2 ⟨rfl, hb⟩
      have hk : Below w1.heap.size w1 w2 := by first | exact hb | exact bl_tr (bl_al (bl0 _) _) hb | exact bl_tr (bl_dr (bl_al (bl0 _) _)) hb | exact bl_tr (bl_al (bl_al (bl0 _) _) _) hb | exact bl_tr (bl_dr (bl_al (bl_al (bl0 _) _) _)) hb | exact bl_tr (bl_al (bl_al (bl_al (bl0 _) _) _) _) hb | exact bl_tr (bl_dr (bl_al (bl_al (bl_al (bl0 _) _) _) _)) hb | exact bl_tr (bl_al (bl_al (bl_al (bl_al (bl0 _) _) _) _) _) hb | exact bl_tr (bl_dr (bl_al (bl_al (bl_al (bl_al (bl0 _) _) _) _) _)) hb | exact bl_tr (bl_al (bl_al (bl_al (bl_al (bl_al (bl0 _) _) _) _) _) _) hb | exact bl_tr (bl_dr (bl_al (bl_al (bl_al (bl_al (bl_al (bl0 _) _) _) _) _) _)) hb | exact bl_tr (bl_al (bl_al (bl_al (bl_al (bl_al (bl_al (bl0 _) _) _) _) _) _) _) hb | exact bl_tr (bl_dr (bl_al (bl_al (bl_al (bl_al (bl_al (bl_al (bl0 _) _) _) _) _) _) _)) hb | exact bl_tr (bl_dr (bl0 _)) hb
      replace hA := bl_tr hA hk
      clear hb hk
      rw [H1.out]
      go_wp2
      go_ret2
      exact ⟨rfl, hA⟩
    · cases h2 : inB A B Z V
      · have H1 := Lib.hid h1
        have H2 := Lib.hid h2
        clear he e10 hc h1 h2
        go_enter Try.func32, Try.ntmps32
        go_wp2_with fail
        refine (check_any _ _ _ _ _ _).mono ?_
        rintro e w1 ⟨rfl, hb⟩
        have hk : Below w.heap.size w w1 := by first | exact hb | exact bl_tr (bl_al (bl0 _) _) hb | exact bl_tr (bl_dr (bl_al (bl0 _) _)) hb | exact bl_tr (bl_al (bl_al (bl0 _) _) _) hb | exact bl_tr (bl_dr (bl_al (bl_al (bl0 _) _) _)) hb | exact bl_tr (bl_al (bl_al (bl_al (bl0 _) _) _) _) hb | exact bl_tr (bl_dr (bl_al (bl_al (bl_al (bl0 _) _) _) _)) hb | exact bl_tr (bl_al (bl_al (bl_al (bl_al (bl0 _) _) _) _) _) hb | exact bl_tr (bl_dr (bl_al (bl_al (bl_al (bl_al (bl0 _) _) _) _) _)) hb | exact bl_tr (bl_al (bl_al (bl_al (bl_al (bl_al (bl0 _) _) _) _) _) _) hb | exact bl_tr (bl_dr (bl_al (bl_al (bl_al (bl_al (bl_al (bl0 _) _) _) _) _) _)) hb | exact bl_tr (bl_al (bl_al (bl_al (bl_al (bl_al (bl_al (bl0 _) _) _) _) _) _) _) hb | exact bl_tr (bl_dr (bl_al (bl_al (bl_al (bl_al (bl_al (bl_al (bl0 _) _) _) _) _) _) _)) hb | exact bl_tr (bl_dr (bl0 _)) hb
        replace hA := bl_tr hA hk
        have f0 := cell_later hb (v := .int .i64 A) (a := ⟨w.heap.size, 0, none⟩) (by simp [go_sem])
        have f1 := cell_later hb (v := .int .i64 B) (a := ⟨w.heap.size, 1, none⟩) (by simp [go_sem])
        have f2 := cell_later hb (v := .slice a m cap) (a := ⟨w.heap.size, 2, none⟩) (by simp [go_sem])
        have a0 := cell_later hb (v := .int .i64 X) (a := ⟨w.heap.size + 1, 0, none⟩) (by simp [go_sem])
        have a1 := cell_later hb (v := .int .i64 Y) (a := ⟨w.heap.size + 1, 1, none⟩) (by simp [go_sem])
        have b0 := cell_later hb (v := .int .i64 Z) (a := ⟨w.heap.size + 1 + 1, 0, none⟩) (by simp [go_sem])
        have b1 := cell_later hb (v := .int .i64 V) (a := ⟨w.heap.size + 1 + 1, 1, none⟩) (by simp [go_sem])
        clear hb hk
        have zf0 := blk_lt f0
        have zf1 := blk_lt f1
        have zf2 := blk_lt f2
        have za0 := blk_lt a0
        have za1 := blk_lt a1
        have zb0 := blk_lt b0
        have zb1 := blk_lt b1
        rw [HC.out]
        go_wp2_with fail
        refine (in_any _ _ _ _ _).mono ?_
        rintro e w2 ⟨rfl, hb⟩
        have hk : Below w1.heap.size w1 w2 := by first | exact hb | exact bl_tr (bl_al (bl0 _) _) hb | exact bl_tr (bl_dr (bl_al (bl0 _) _)) hb | exact bl_tr (bl_al (bl_al (bl0 _) _) _) hb | exact bl_tr (bl_dr (bl_al (bl_al (bl0 _) _) _)) hb | exact bl_tr (bl_al (bl_al (bl_al (bl0 _) _) _) _) hb | exact bl_tr (bl_dr (bl_al (bl_al (bl_al (bl0 _) _) _) _)) hb | exact bl_tr (bl_al (bl_al (bl_al (bl_al (bl0 _) _) _) _) _) hb | exact bl_tr (bl_dr (bl_al (bl_al (bl_al (bl_al (bl0 _) _) _) _) _)) hb | exact bl_tr (bl_al (bl_al (bl_al (bl_al (bl_al (bl0 _) _) _) _) _) _) hb | exact bl_tr (bl_dr (bl_al (bl_al (bl_al (bl_al (bl_al (bl0 _) _) _) _) _) _)) hb | exact bl_tr (bl_al (bl_al (bl_al (bl_al (bl_al (bl_al (bl0 _) _) _) _) _) _) _) hb | exact bl_tr (bl_dr (bl_al (bl_al (bl_al (bl_al (bl_al (bl_al (bl0 _) _) _) _) _) _) _)) hb | exact bl_tr (bl_dr (bl0 _)) hb
        replace hA := bl_tr hA hk
        replace f0 := cell_later hk f0
        replace f1 := cell_later hk f1
        replace f2 := cell_later hk f2
        replace b0 := cell_later hk b0
        replace b1 := cell_later hk b1
        clear hb hk
        have zf0 := blk_lt f0
        have zf1 := blk_lt f1
        have zf2 := blk_lt f2
        have zb0 := blk_lt b0
        have zb1 := blk_lt b1
        rw [H1.out]
        go_wp2_with fail
        refine (in_any _ _ _ _ _).mono ?_
        rintro e w3 ⟨rfl, hb⟩
        have hk : Below w2.heap.size w2 w3 := by first | exact hb | exact bl_tr (bl_al (bl0 _) _) hb | exact bl_tr (bl_dr (bl_al (bl0 _) _)) hb | exact bl_tr (bl_al (bl_al (bl0 _) _) _) hb | exact bl_tr (bl_dr (bl_al (bl_al (bl0 _) _) _)) hb | exact bl_tr (bl_al (bl_al (bl_al (bl0 _) _) _) _) hb | exact bl_tr (bl_dr (bl_al (bl_al (bl_al (bl0 _) _) _) _)) hb | exact bl_tr (bl_al (bl_al (bl_al (bl_al (bl0 _) _) _) _) _) hb | exact bl_tr (bl_dr (bl_al (bl_al (bl_al (bl_al (bl0 _) _) _) _) _)) hb | exact bl_tr (bl_al (bl_al (bl_al (bl_al (bl_al (bl0 _) _) _) _) _) _) hb | exact bl_tr (bl_dr (bl_al (bl_al (bl_al (bl_al (bl_al (bl0 _) _) _) _) _) _)) hb | exact bl_tr (bl_al (bl_al (bl_al (bl_al (bl_al (bl_al (bl0 _) _) _) _) _) _) _) hb | exact bl_tr (bl_dr (bl_al (bl_al (bl_al (bl_al (bl_al (bl_al (bl0 _) _) _) _) _) _) _)) hb | exact bl_tr (bl_dr (bl0 _)) hb
        replace hA := bl_tr hA hk
        clear hb hk
        rw [H2.out]
        go_wp2
        go_ret2
        exact ⟨rfl, hA⟩
      · exfalso
        apply he
        unfold errW
        rw [if_neg (fun h => h hc), if_pos (by rw [h1, h2]; rfl)]
  · have e10 : errW A B m X Y Z V = chkF A B m := by unfold errW; rw [if_pos hc]
    rw [e10]
    have h5 : (chkF A B m != 0) = true := by rw [bne_iff_ne]; exact hc
    clear he e10 hc
    generalize hq : chkF A B m = q at *
    have HX := Lib.hid hq
    clear hq
    go_enter Try.func32, Try.ntmps32
    go_wp2_with fail
    refine (check_any _ _ _ _ _ _).mono ?_
    rintro e w1 ⟨rfl, hb⟩
    have hk : Below w.heap.size w w1 := by first | exact hb | exact bl_tr (bl_al (bl0 _) _) hb | exact bl_tr (bl_dr (bl_al (bl0 _) _)) hb | exact bl_tr (bl_al (bl_al (bl0 _) _) _) hb | exact bl_tr (bl_dr (bl_al (bl_al (bl0 _) _) _)) hb | exact bl_tr (bl_al (bl_al (bl_al (bl0 _) _) _) _) hb | exact bl_tr (bl_dr (bl_al (bl_al (bl_al (bl0 _) _) _) _)) hb | exact bl_tr (bl_al (bl_al (bl_al (bl_al (bl0 _) _) _) _) _) hb | exact bl_tr (bl_dr (bl_al (bl_al (bl_al (bl_al (bl0 _) _) _) _) _)) hb | exact bl_tr (bl_al (bl_al (bl_al (bl_al (bl_al (bl0 _) _) _) _) _) _) hb | exact bl_tr (bl_dr (bl_al (bl_al (bl_al (bl_al (bl_al (bl0 _) _) _) _) _) _)) hb | exact bl_tr (bl_al (bl_al (bl_al (bl_al (bl_al (bl_al (bl0 _) _) _) _) _) _) _) hb | exact bl_tr (bl_dr (bl_al (bl_al (bl_al (bl_al (bl_al (bl_al (bl0 _) _) _) _) _) _) _)) hb | exact bl_tr (bl_dr (bl0 _)) hb
    replace hA := bl_tr hA hk
    clear hb hk
    rw [HX.out]
    go_wp2
    go_ret2
    exact ⟨rfl, hA⟩
set_option maxHeartbeats 2000000 in
theorem swalk_yes (A B : Int) (a : Option Addr) (cap : Nat) (zs : List Int) (X Y Z V : Int) (n : Nat) (w : World) (hr : RowH w a zs) (hc : chkF A B zs.length = 0) (h1 : inB A B X Y = true) (h2 : inB A B Z V = true) (hf : max (apartI X Z) (apartI Y V) = n) :
    Calls Try.prog 32 #[.agg #[.int .i64 A, .int .i64 B, .slice a zs.length cap], .agg #[.int .i64 X, .int .i64 Y], .agg #[.int .i64 Z, .int .i64 V]] w fun e w' => ∃ b cap2, e = .returned (.tuple #[.slice b (seenF A zs X Y Z V n).length cap2, .int .i64 0]) ∧ RowC w' b (seenF A zs X Y Z V n) ∧ Below w.heap.size w w' := by
  have hA := bl0 w
  have hn := chk_area hc
  have HC := Lib.hid hc
  have H1 := Lib.hid h1
  have H2 := Lib.hid h2
  have HN := Lib.hid hn
  clear hc h1 h2 hn
  go_enter Try.func32, Try.ntmps32
  go_wp2_with fail
  refine (check_any _ _ _ _ _ _).mono ?_
  rintro e w1 ⟨rfl, hb⟩
  have hk : Below w.heap.size w w1 := by first | exact hb | exact bl_tr (bl_al (bl0 _) _) hb | exact bl_tr (bl_dr (bl_al (bl0 _) _)) hb | exact bl_tr (bl_al (bl_al (bl0 _) _) _) hb | exact bl_tr (bl_dr (bl_al (bl_al (bl0 _) _) _)) hb | exact bl_tr (bl_al (bl_al (bl_al (bl0 _) _) _) _) hb | exact bl_tr (bl_dr (bl_al (bl_al (bl_al (bl0 _) _) _) _)) hb | exact bl_tr (bl_al (bl_al (bl_al (bl_al (bl0 _) _) _) _) _) hb | exact bl_tr (bl_dr (bl_al (bl_al (bl_al (bl_al (bl0 _) _) _) _) _)) hb | exact bl_tr (bl_al (bl_al (bl_al (bl_al (bl_al (bl0 _) _) _) _) _) _) hb | exact bl_tr (bl_dr (bl_al (bl_al (bl_al (bl_al (bl_al (bl0 _) _) _) _) _) _)) hb | exact bl_tr (bl_al (bl_al (bl_al (bl_al (bl_al (bl_al (bl0 _) _) _) _) _) _) _) hb | exact bl_tr (bl_dr (bl_al (bl_al (bl_al (bl_al (bl_al (bl_al (bl0 _) _) _) _) _) _) _)) hb | exact bl_tr (bl_dr (bl0 _)) hb
  replace hA := bl_tr hA hk
  have f0 := cell_later hb (v := .int .i64 A) (a := ⟨w.heap.size, 0, none⟩) (by simp [go_sem])
  have f1 := cell_later hb (v := .int .i64 B) (a := ⟨w.heap.size, 1, none⟩) (by simp [go_sem])
  have f2 := cell_later hb (v := .slice a zs.length cap) (a := ⟨w.heap.size, 2, none⟩) (by simp [go_sem])
  have a0 := cell_later hb (v := .int .i64 X) (a := ⟨w.heap.size + 1, 0, none⟩) (by simp [go_sem])
  have a1 := cell_later hb (v := .int .i64 Y) (a := ⟨w.heap.size + 1, 1, none⟩) (by simp [go_sem])
  have b0 := cell_later hb (v := .int .i64 Z) (a := ⟨w.heap.size + 1 + 1, 0, none⟩) (by simp [go_sem])
  have b1 := cell_later hb (v := .int .i64 V) (a := ⟨w.heap.size + 1 + 1, 1, none⟩) (by simp [go_sem])
  clear hb hk
  have zf0 := blk_lt f0
  have zf1 := blk_lt f1
  have zf2 := blk_lt f2
  have za0 := blk_lt a0
  have za1 := blk_lt a1
  have zb0 := blk_lt b0
  have zb1 := blk_lt b1
  rw [HC.out]
  go_wp2_with fail
  refine (in_any _ _ _ _ _).mono ?_
  rintro e w2 ⟨rfl, hb⟩
  have hk : Below w1.heap.size w1 w2 := by first | exact hb | exact bl_tr (bl_al (bl0 _) _) hb | exact bl_tr (bl_dr (bl_al (bl0 _) _)) hb | exact bl_tr (bl_al (bl_al (bl0 _) _) _) hb | exact bl_tr (bl_dr (bl_al (bl_al (bl0 _) _) _)) hb | exact bl_tr (bl_al (bl_al (bl_al (bl0 _) _) _) _) hb | exact bl_tr (bl_dr (bl_al (bl_al (bl_al (bl0 _) _) _) _)) hb | exact bl_tr (bl_al (bl_al (bl_al (bl_al (bl0 _) _) _) _) _) hb | exact bl_tr (bl_dr (bl_al (bl_al (bl_al (bl_al (bl0 _) _) _) _) _)) hb | exact bl_tr (bl_al (bl_al (bl_al (bl_al (bl_al (bl0 _) _) _) _) _) _) hb | exact bl_tr (bl_dr (bl_al (bl_al (bl_al (bl_al (bl_al (bl0 _) _) _) _) _) _)) hb | exact bl_tr (bl_al (bl_al (bl_al (bl_al (bl_al (bl_al (bl0 _) _) _) _) _) _) _) hb | exact bl_tr (bl_dr (bl_al (bl_al (bl_al (bl_al (bl_al (bl_al (bl0 _) _) _) _) _) _) _)) hb | exact bl_tr (bl_dr (bl0 _)) hb
  replace hA := bl_tr hA hk
  replace f0 := cell_later hk f0
  replace f1 := cell_later hk f1
  replace f2 := cell_later hk f2
  replace a0 := cell_later hk a0
  replace a1 := cell_later hk a1
  replace b0 := cell_later hk b0
  replace b1 := cell_later hk b1
  clear hb hk
  have zf0 := blk_lt f0
  have zf1 := blk_lt f1
  have zf2 := blk_lt f2
  have za0 := blk_lt a0
  have za1 := blk_lt a1
  have zb0 := blk_lt b0
  have zb1 := blk_lt b1
  rw [H1.out]
  go_wp2_with fail
  refine (in_any _ _ _ _ _).mono ?_
  rintro e w3 ⟨rfl, hb⟩
  have hk : Below w2.heap.size w2 w3 := by first | exact hb | exact bl_tr (bl_al (bl0 _) _) hb | exact bl_tr (bl_dr (bl_al (bl0 _) _)) hb | exact bl_tr (bl_al (bl_al (bl0 _) _) _) hb | exact bl_tr (bl_dr (bl_al (bl_al (bl0 _) _) _)) hb | exact bl_tr (bl_al (bl_al (bl_al (bl0 _) _) _) _) hb | exact bl_tr (bl_dr (bl_al (bl_al (bl_al (bl0 _) _) _) _)) hb | exact bl_tr (bl_al (bl_al (bl_al (bl_al (bl0 _) _) _) _) _) hb | exact bl_tr (bl_dr (bl_al (bl_al (bl_al (bl_al (bl0 _) _) _) _) _)) hb | exact bl_tr (bl_al (bl_al (bl_al (bl_al (bl_al (bl0 _) _) _) _) _) _) hb | exact bl_tr (bl_dr (bl_al (bl_al (bl_al (bl_al (bl_al (bl0 _) _) _) _) _) _)) hb | exact bl_tr (bl_al (bl_al (bl_al (bl_al (bl_al (bl_al (bl0 _) _) _) _) _) _) _) hb | exact bl_tr (bl_dr (bl_al (bl_al (bl_al (bl_al (bl_al (bl_al (bl0 _) _) _) _) _) _) _)) hb | exact bl_tr (bl_dr (bl0 _)) hb
  replace hA := bl_tr hA hk
  replace f0 := cell_later hk f0
  replace f1 := cell_later hk f1
  replace f2 := cell_later hk f2
  replace a0 := cell_later hk a0
  replace a1 := cell_later hk a1
  replace b0 := cell_later hk b0
  replace b1 := cell_later hk b1
  clear hb hk
  have zf0 := blk_lt f0
  have zf1 := blk_lt f1
  have zf2 := blk_lt f2
  have za0 := blk_lt a0
  have za1 := blk_lt a1
  have zb0 := blk_lt b0
  have zb1 := blk_lt b1
  rw [H2.out]
  go_wp2_with fail
  refine (walk_any A B a cap zs X Y Z V n _ (hr.below hA) H1.out H2.out HN.out hf).mono ?_
  rintro e w4 ⟨b, cap2, rfl, hrc, hb⟩
  have hF := bl_tr hA hb
  go_wp2
  go_ret2
  exact ⟨_, _, rfl, hrc, hF⟩

set_option maxRecDepth 100000 in
set_option maxHeartbeats 4000000 in
theorem awake_any (w : World) :
    Calls Try.prog 15 #[] w fun e w' => e = .returned (.bool true) ∧ Below w.heap.size w w' := by
  have hA := bl0 w
  have l1 : (lineF 0 0 3 1 3) = [(0, 0), (1, 0), (2, 1), (3, 1)] := by decide
  have l2 : seenF 4 [1, 0, 1, 1, 1, 1, 1, 1] 0 0 3 1 3 = [(0, 0), (1, 0)] := by decide
  have L1 := Lib.hid l1
  have L2 := Lib.hid l2
  clear l1 l2
  go_enter Try.func15, Try.ntmps15
  go_wp2_with fail
  refine (line_yes 0 0 3 1 3 _ (by decide) (by decide) (by decide) (by decide)).mono ?_
  rw [L1.out]
  rintro e w1 ⟨a, cap, rfl, hr1, hb⟩
  have hA1 := bl_tr hA hb
  clear hb
  go_wp2_with fail
  obtain ⟨W2, hW2⟩ : ∃ W2, (w1.alloc (.cells #[.int .u16 1, .int .u16 0, .int .u16 1, .int .u16 1, .int .u16 1, .int .u16 1, .int .u16 1, .int .u16 1] 49)).alloc (.cells #[.int .i64 4, .int .i64 2, .slice (some ⟨w1.heap.size, 0, none⟩) 8 8] 26) = W2 := ⟨_, rfl⟩
  have hb2 : Below w1.heap.size w1 W2 := by rw [← hW2]; exact bl_al (bl_al (bl0 _) _) _
  have hrf : RowH W2 (some ⟨w1.heap.size, 0, none⟩) [1, 0, 1, 1, 1, 1, 1, 1] := .inr ⟨_, 0, rfl, fun i z hz => by
    have hi := (List.getElem?_eq_some_iff.1 hz).1
    simp at hi
    rw [← hW2]
    obtain rfl | rfl | rfl | rfl | rfl | rfl | rfl | rfl : i = 0 ∨ i = 1 ∨ i = 2 ∨ i = 3 ∨ i = 4 ∨ i = 5 ∨ i = 6 ∨ i = 7 := by omega
    all_goals
      simp at hz
      subst hz
      simp [go_sem]⟩
  rw [hW2]
  clear hW2
  have hr2 := hr1.below hb2
  have hA2 := bl_tr hA1 hb2
  refine (swalk_yes 4 2 (some ⟨w1.heap.size, 0, none⟩) 8 [1, 0, 1, 1, 1, 1, 1, 1] 0 0 3 1 3 _ hrf (by decide) (by decide) (by decide) (by decide)).mono ?_
  rw [L2.out]
  rintro e w3 ⟨a3, cap3, rfl, hr3, hb⟩
  have hr4 := hr2.below hb
  have hA3 := bl_tr hA2 hb
  clear hb hrf hr1 hr2 hb2 hA1 hA2 hA
  go_wp2_with fail
  obtain ⟨W4, hW4⟩ : ∃ W4, w3.alloc (.cells #[.int .i64 0, .int .i64 0, .int .i64 1, .int .i64 0, .int .i64 2, .int .i64 1, .int .i64 3, .int .i64 1] 37) = W4 := ⟨_, rfl⟩
  have hb4 : Below w3.heap.size w3 W4 := by rw [← hW4]; exact bl_al (bl0 _) _
  have hl4 : RowC W4 (some ⟨w3.heap.size, 0, none⟩) [(0, 0), (1, 0), (2, 1), (3, 1)] := .inr ⟨_, 0, rfl, fun i z hz => by
    have hi := (List.getElem?_eq_some_iff.1 hz).1
    simp at hi
    rw [← hW4]
    obtain rfl | rfl | rfl | rfl : i = 0 ∨ i = 1 ∨ i = 2 ∨ i = 3 := by omega
    all_goals
      simp at hz
      subst hz
      simp [go_sem]⟩
  rw [hW4]
  clear hW4
  replace hA3 := bl_tr hA3 hb4
  refine (samec_any a (some ⟨w3.heap.size, 0, none⟩) cap 4 [(0, 0), (1, 0), (2, 1), (3, 1)] [(0, 0), (1, 0), (2, 1), (3, 1)] _ (hr4.below hb4) hl4 (by decide)).mono ?_
  rintro e w5 ⟨rfl, hb⟩
  rw [show decide (([(0, 0), (1, 0), (2, 1), (3, 1)] : List (Int × Int)) = [(0, 0), (1, 0), (2, 1), (3, 1)]) = true from decide_eq_true rfl]
  have hr5 := (hr3.below hb4).below hb
  replace hA3 := bl_tr hA3 hb
  clear hb hr3 hr4 hl4 hb4
  go_wp2_with fail
  obtain ⟨W6, hW6⟩ : ∃ W6, w5.alloc (.cells #[.int .i64 0, .int .i64 0, .int .i64 1, .int .i64 0] 37) = W6 := ⟨_, rfl⟩
  have hb6 : Below w5.heap.size w5 W6 := by rw [← hW6]; exact bl_al (bl0 _) _
  have hl6 : RowC W6 (some ⟨w5.heap.size, 0, none⟩) [(0, 0), (1, 0)] := .inr ⟨_, 0, rfl, fun i z hz => by
    have hi := (List.getElem?_eq_some_iff.1 hz).1
    simp at hi
    rw [← hW6]
    obtain rfl | rfl : i = 0 ∨ i = 1 := by omega
    all_goals
      simp at hz
      subst hz
      simp [go_sem]⟩
  rw [hW6]
  clear hW6
  replace hA3 := bl_tr hA3 hb6
  refine (samec_any a3 (some ⟨w5.heap.size, 0, none⟩) cap3 2 [(0, 0), (1, 0)] [(0, 0), (1, 0)] _ (hr5.below hb6) hl6 (by decide)).mono ?_
  rintro e w7 ⟨rfl, hb⟩
  rw [show decide (([(0, 0), (1, 0)] : List (Int × Int)) = [(0, 0), (1, 0)]) = true from decide_eq_true rfl]
  replace hA3 := bl_tr hA3 hb
  clear hb hr5 hl6 hb6
  go_wp2
  go_ret
  exact ⟨rfl, hA3⟩
end Go.Proofs.Ythebiibiapjdiaa

/- What is seen along a line: Sees; the document's answer. -/
namespace Go.Proofs.Ythebiibiapjdiaa
open Go.RowKit

theorem take_prefix_walk (wl : Int × Int → Bool) (l : List (Int × Int)) : walkL wl l <+: l := by
  have h : ∀ l : List (Int × Int), takeTo wl l <+: l := by
    intro l
    induction l with
    | nil => exact List.prefix_rfl
    | cons c r ih =>
      rw [takeTo]
      split
      · exact ⟨r, rfl⟩
      · exact (List.prefix_cons_inj c).2 ih
  cases l with
  | nil => exact List.prefix_rfl
  | cons c r => exact (List.prefix_cons_inj c).2 (h r)
theorem walkL_pos (wl : Int × Int → Bool) {l : List (Int × Int)} (h : l ≠ []) : walkL wl l ≠ [] := by
  cases l with
  | nil => exact absurd rfl h
  | cons c r => simp [walkL]
theorem line_inj {X Y Z V : Int} {n : Nat} (hf : max (apartI X Z) (apartI Y V) = n) {i j : Nat} (h : lineK X Y Z V n i = lineK X Y Z V n j) (hi : i ≤ n) (hj : j ≤ n) : i = j := by
  have e1 : pF (i * (Z - X)) n = pF (j * (Z - X)) n := by have := congrArg Prod.fst h; simp only [lineK] at this; omega
  have e2 : pF (i * (V - Y)) n = pF (j * (V - Y)) n := by have := congrArg Prod.snd h; simp only [lineK] at this; omega
  by_cases hn : n = 0
  · omega
  have key : ∀ d : Int, d = n ∨ d = -(n : Int) → pF (i * d) n = pF (j * d) n → i = j := by
    rintro d (rfl | rfl) e
    · have p := pF_all n i
      have q := pF_all n j
      rw [if_neg hn] at p q
      omega
    · have p := pF_all n (-(i : Int))
      have q := pF_all n (-(j : Int))
      rw [if_neg hn] at p q
      rw [Int.mul_neg, Int.mul_neg, ← Int.neg_mul, ← Int.neg_mul] at e
      omega
  unfold apartI at hf
  by_cases h : Z - X = n ∨ Z - X = -(n : Int)
  · exact key _ h e1
  · exact key (V - Y) (by omega) e2
theorem line_end {X Y Z V : Int} {n : Nat} (hf : max (apartI X Z) (apartI Y V) = n) : lineK X Y Z V n n = (Z, V) := by
  have key : ∀ d : Int, -(n : Int) ≤ d → d ≤ n → pF (n * d) n = d := by
    intro d h1 h2
    have := pF_all n d
    rw [Int.mul_comm] at this
    rw [this]
    split
    · omega
    · rfl
  unfold apartI at hf
  unfold lineK
  rw [key _ (by omega) (by omega), key _ (by omega) (by omega)]
  exact Prod.ext (by show X + (Z - X) = Z; omega) (by show Y + (V - Y) = V; omega)
/-- One sees the end just if it is the last that one sees. -/
theorem seen_end {A : Int} {zs : List Int} {X Y Z V : Int} {n : Nat} (hf : max (apartI X Z) (apartI Y V) = n) {m : Nat} (hm : (seenF A zs X Y Z V n).length = m + 1) :
    ∃ x y, (seenF A zs X Y Z V n)[m]? = some (x, y) ∧ (decide ((Z, V) ∈ seenF A zs X Y Z V n) = decide ((x, y) = (Z, V))) := by
  have hp := take_prefix_walk (wallB A zs) (lineF X Y Z V n)
  have hml : m < n + 1 := by
    have h := hp.length_le
    rw [lineF_len] at h
    have h2 : (walkL (wallB A zs) (lineF X Y Z V n)).length = m + 1 := hm
    omega
  have ht : seenF A zs X Y Z V n = (lineF X Y Z V n).take (m + 1) := by
    have h := List.prefix_iff_eq_take.1 hp
    have h2 : (walkL (wallB A zs) (lineF X Y Z V n)).length = m + 1 := hm
    rw [h2] at h
    exact h
  refine ⟨(lineK X Y Z V n m).1, (lineK X Y Z V n m).2, ?_, ?_⟩
  · rw [ht, List.getElem?_take, if_pos (by omega), lineF_at hml]
  · rw [decide_eq_decide]
    rw [show ((lineK X Y Z V n m).1, (lineK X Y Z V n m).2) = lineK X Y Z V n m from rfl]
    constructor
    · intro h
      rw [ht] at h
      obtain ⟨i, hi, e⟩ := List.getElem_of_mem h
      rw [List.length_take, lineF_len] at hi
      have e2 := List.getElem?_eq_getElem (l := (lineF X Y Z V n).take (m + 1)) (i := i) (by rw [List.length_take, lineF_len]; exact hi)
      rw [List.getElem?_take, if_pos (by omega), lineF_at (by omega), e] at e2
      have e3 : lineK X Y Z V n i = lineK X Y Z V n n := (Option.some.inj e2).trans (line_end hf).symm
      have := line_inj hf e3 (by omega) (Nat.le_refl _)
      have hmn : m = n := by omega
      rw [hmn]
      exact line_end hf
    · intro h
      have e3 : lineK X Y Z V n m = lineK X Y Z V n n := h.trans (line_end hf).symm
      have := line_inj hf e3 (by omega) (Nat.le_refl _)
      subst this
      rw [ht, ← h]
      refine List.mem_of_getElem? (i := m) ?_
      rw [List.getElem?_take, if_pos (by omega), lineF_at hml]

theorem not_mem_at {xs : List (Int × Int)} {v : Int × Int} (h : ∀ j, j < xs.length → xs[j]? ≠ some v) : v ∉ xs := by
  intro hm
  obtain ⟨i, hi, e⟩ := List.getElem_of_mem hm
  exact h i hi (by rw [List.getElem?_eq_getElem hi, e])

set_option maxHeartbeats 2000000 in
theorem sindex_any (a : Option Addr) (cap : Nat) (xs : List (Int × Int)) (x y : Int) (w : World) (hr : RowC w a xs) (hl : xs.length ≤ 100000) :
    Calls Try.prog 100 #[.slice a xs.length cap, .agg #[.int .i64 x, .int .i64 y]] w fun e w' => ∃ i : Int, e = .returned (.int .i64 i) ∧ (0 ≤ i ↔ (x, y) ∈ xs) ∧ Below w.heap.size w w' := by
  have hl2 : (xs.length : Int) ≤ 100000 := by omega
  obtain ⟨w0, hw0⟩ : ∃ w0, w.alloc (.cells #[.int .i64 x, .int .i64 y] 37) = w0 := ⟨_, rfl⟩
  have hb0 : Below w.heap.size w w0 := by rw [← hw0]; exact bl_al (bl0 _) _
  have c0 : w0.cell? ⟨w.heap.size, 0, none⟩ = some (.int .i64 x) := by rw [← hw0]; simp [go_sem]
  have c1 : w0.cell? ⟨w.heap.size, 1, none⟩ = some (.int .i64 y) := by rw [← hw0]; simp [go_sem]
  have HW := Lib.hid hw0
  clear hw0
  replace hr := hr.below hb0
  go_enter Try.func100, Try.ntmps100
  go_wp2
  rw [HW.out]
  go_loopw [5, 8] (fun _ i wr => ∃ k : Nat, k ≤ xs.length ∧ i = .int .i64 k ∧ (∀ j, j < k → xs[j]? ≠ some (x, y)) ∧ Below w0.heap.size w0 wr) (fun _ i _ => xs.length - (intOf i).toNat)
  case atStart => exact ⟨0, Nat.zero_le _, rfl, (fun j h => by omega), bl0 _⟩
  case round =>
    obtain ⟨k, hk, rfl, ht, hB⟩ := hrel
    have HT := Lib.hid ht
    clear ht
    replace c0 := cell_later hB c0
    replace c1 := cell_later hB c1
    have hBw := hb0.trans (hB.mono hb0.size)
    by_cases hlt : k < xs.length
    · have hlt2 : (k : Int) < (xs.length : Int) := by omega
      have hk0 : (0 : Int) ≤ (k : Int) := by omega
      obtain ⟨gb, go, rfl, q0, q1⟩ := hr.cell hlt
      replace q0 := cell_later hB q0
      replace q1 := cell_later hB q1
      have HN := Lib.hid (show xs[k] ≠ (x, y) → ∀ j, j < k + 1 → xs[j]? ≠ some (x, y) by
        intro hne j hj
        by_cases e : j = k
        · subst e
          rw [List.getElem?_eq_getElem hlt]
          exact fun h => hne (Option.some.inj h)
        · exact HT.out j (by omega))
      have HE := Lib.hid (show xs[k] = (x, y) → (x, y) ∈ xs from fun h => by rw [← h]; exact List.getElem_mem hlt)
      have HQ := Lib.hid (show xs[k] = (xs[k].1, xs[k].2) from rfl)
      clear hr HT
      obtain ⟨z1, hz1⟩ : ∃ z, xs[k].1 = z := ⟨_, rfl⟩
      obtain ⟨z2, hz2⟩ : ∃ z, xs[k].2 = z := ⟨_, rfl⟩
      have HQ2 := Lib.hid (show xs[k] = (z1, z2) by rw [← hz1, ← hz2])
      rw [hz1] at q0
      rw [hz2] at q1
      clear HQ hz1 hz2
      by_cases h1 : x = z1
      · by_cases h2 : y = z2
        · subst h1 h2
          have b1 := beq_self_eq_true x
          have b2 := beq_self_eq_true y
          go_wp2
          go_quiet (fail)
          go_wp2
          go_ret
          exact ⟨k, rfl, ⟨fun _ => HE.out HQ2.out, fun _ => hk0⟩, hBw.trans ((bl_drn _ _).mono hBw.size)⟩
        · have b1 : (x == z1) = true := by rw [beq_iff_eq]; exact h1
          have b2 : (y == z2) = false := by rw [beq_eq_false_iff_ne]; exact h2
          have HS := Lib.hid (HN.out (by rw [HQ2.out]; intro e; exact h2 (congrArg Prod.snd e).symm))
          clear h1 h2 HN HE HQ2
          go_wp2
          go_quiet (fail)
          go_wp2
          go_roundw
          case rel => exact ⟨k + 1, by omega, by go_num, HS.out, bl_tr hB (bl_drn _ _)⟩
          case measure => simp [intOf]; omega
      · have b1 : (x == z1) = false := by rw [beq_eq_false_iff_ne]; exact h1
        have HS := Lib.hid (HN.out (by rw [HQ2.out]; intro e; exact h1 (congrArg Prod.fst e).symm))
        clear h1 HN HE HQ2
        go_wp2
        go_quiet (fail)
        go_wp2
        go_roundw
        case rel => exact ⟨k + 1, by omega, by go_num, HS.out, bl_tr hB (bl_drn _ _)⟩
        case measure => simp [intOf]; omega
    · have hge : (xs.length : Int) ≤ (k : Int) := by omega
      have HS := Lib.hid (not_mem_at (fun j hj => HT.out j (by omega)))
      clear hr
      go_wp2
      go_ret
      exact ⟨-1, rfl, ⟨fun h => by omega, fun h => absurd h HS.out⟩, hBw⟩
set_option maxHeartbeats 2000000 in
theorem scontains_any (a : Option Addr) (cap : Nat) (xs : List (Int × Int)) (x y : Int) (w : World) (hr : RowC w a xs) (hl : xs.length ≤ 100000) :
    Calls Try.prog 81 #[.slice a xs.length cap, .agg #[.int .i64 x, .int .i64 y]] w fun e w' => e = .returned (.bool (decide ((x, y) ∈ xs))) ∧ Below w.heap.size w w' := by
  have hA := bl0 w
  have hb0 := bl_al (bl0 w) (.cells #[.int .i64 x, .int .i64 y] 37)
  have HR := Lib.hid (hr.below hb0)
  go_enter Try.func81, Try.ntmps81
  go_wp2_with fail
  refine (sindex_any a cap xs x y _ HR.out hl).mono ?_
  rintro e w1 ⟨i, rfl, hi, hb⟩
  have hF := bl_tr hb0 hb
  by_cases h0 : 0 ≤ i
  · have HM := Lib.hid (hi.1 h0)
    clear hi
    go_wp2
    go_ret
    exact ⟨ret_bool (by simp [HM.out]), hF⟩
  · have HM := Lib.hid (show (x, y) ∉ xs from fun h => h0 (hi.2 h))
    have h1 : i < 0 := by omega
    clear hi h0
    go_wp2
    go_ret
    exact ⟨ret_bool (by simp [HM.out]; try omega), hF⟩
end Go.Proofs.Ythebiibiapjdiaa

/- What is seen along a line: Sees, and the document's answer. -/
namespace Go.Proofs.Ythebiibiapjdiaa
open Go.RowKit

set_option maxHeartbeats 2000000 in
theorem sees_no (A B : Int) (a : Option Addr) (m cap : Nat) (X Y Z V : Int) (w : World) (he : errW A B m X Y Z V ≠ 0) :
    Calls Try.prog 33 #[.agg #[.int .i64 A, .int .i64 B, .slice a m cap], .agg #[.int .i64 X, .int .i64 Y], .agg #[.int .i64 Z, .int .i64 V]] w fun e w' => e = .returned (.tuple #[.bool false, .int .i64 (errW A B m X Y Z V)]) ∧ Below w.heap.size w w' := by
  have hA := bl0 w
  have HE := Lib.hid he
  have h5 : (errW A B m X Y Z V != 0) = true := by rw [bne_iff_ne]; exact he
  clear he
  obtain ⟨q, hq⟩ : ∃ q, errW A B m X Y Z V = q := ⟨_, rfl⟩
  rw [hq] at h5 ⊢
  have HQ := Lib.hid hq
  clear hq
  go_enter Try.func33, Try.ntmps33
  go_wp2_with fail
  refine (swalk_no _ _ _ _ _ _ _ _ _ _ HE.out).mono ?_
  rintro e w1 ⟨rfl, hb⟩
  have hk : Below w.heap.size w w1 := by first | exact hb | exact bl_tr (bl_al (bl0 _) _) hb | exact bl_tr (bl_dr (bl_al (bl0 _) _)) hb | exact bl_tr (bl_al (bl_al (bl0 _) _) _) hb | exact bl_tr (bl_dr (bl_al (bl_al (bl0 _) _) _)) hb | exact bl_tr (bl_al (bl_al (bl_al (bl0 _) _) _) _) hb | exact bl_tr (bl_dr (bl_al (bl_al (bl_al (bl0 _) _) _) _)) hb | exact bl_tr (bl_al (bl_al (bl_al (bl_al (bl0 _) _) _) _) _) hb | exact bl_tr (bl_dr (bl_al (bl_al (bl_al (bl_al (bl0 _) _) _) _) _)) hb | exact bl_tr (bl_al (bl_al (bl_al (bl_al (bl_al (bl0 _) _) _) _) _) _) hb | exact bl_tr (bl_dr (bl_al (bl_al (bl_al (bl_al (bl_al (bl0 _) _) _) _) _) _)) hb | exact bl_tr (bl_al (bl_al (bl_al (bl_al (bl_al (bl_al (bl0 _) _) _) _) _) _) _) hb | exact bl_tr (bl_dr (bl_al (bl_al (bl_al (bl_al (bl_al (bl_al (bl0 _) _) _) _) _) _) _)) hb | exact bl_tr (bl_dr (bl0 _)) hb
  replace hA := bl_tr hA hk
  clear hb hk
  rw [HQ.out]
  go_wp2
  go_ret2
  exact ⟨rfl, hA⟩
theorem seen_len (A : Int) (zs : List Int) (X Y Z V : Int) (n : Nat) : (seenF A zs X Y Z V n).length ≤ n + 1 := by
  have h := walkL_len (wallB A zs) (lineF X Y Z V n)
  rw [lineF_len] at h
  exact h
set_option maxHeartbeats 2000000 in
theorem sees_yes (A B : Int) (a : Option Addr) (cap : Nat) (zs : List Int) (X Y Z V : Int) (n : Nat) (w : World) (hr : RowH w a zs) (hc : chkF A B zs.length = 0) (h1 : inB A B X Y = true) (h2 : inB A B Z V = true) (hf : max (apartI X Z) (apartI Y V) = n) :
    Calls Try.prog 33 #[.agg #[.int .i64 A, .int .i64 B, .slice a zs.length cap], .agg #[.int .i64 X, .int .i64 Y], .agg #[.int .i64 Z, .int .i64 V]] w fun e w' => e = .returned (.tuple #[.bool (decide ((Z, V) ∈ seenF A zs X Y Z V n)), .int .i64 0]) ∧ Below w.heap.size w w' := by
  have hA := bl0 w
  have hn := far_in h1 h2
  have hsl := seen_len A zs X Y Z V n
  have HC := Lib.hid hc
  have H1 := Lib.hid h1
  have H2 := Lib.hid h2
  have HF := Lib.hid hf
  have hn2 : n ≤ 255 := by omega
  clear hc h1 h2 hf hn
  have hb0 := bl_al (bl_al (bl_al (bl0 w) (.cells #[.int .i64 A, .int .i64 B, .slice a zs.length cap] 26)) (.cells #[.int .i64 X, .int .i64 Y] 37)) (.cells #[.int .i64 Z, .int .i64 V] 37)
  have HR := Lib.hid (hr.below hb0)
  clear hb0
  go_enter Try.func33, Try.ntmps33
  go_wp2_with fail
  refine (swalk_yes A B a cap zs X Y Z V n _ HR.out HC.out H1.out H2.out HF.out).mono ?_
  rintro e w1 ⟨b, cap2, rfl, hrc, hb⟩
  have hk : Below w.heap.size w w1 := by first | exact hb | exact bl_tr (bl_al (bl0 _) _) hb | exact bl_tr (bl_dr (bl_al (bl0 _) _)) hb | exact bl_tr (bl_al (bl_al (bl0 _) _) _) hb | exact bl_tr (bl_dr (bl_al (bl_al (bl0 _) _) _)) hb | exact bl_tr (bl_al (bl_al (bl_al (bl0 _) _) _) _) hb | exact bl_tr (bl_dr (bl_al (bl_al (bl_al (bl0 _) _) _) _)) hb | exact bl_tr (bl_al (bl_al (bl_al (bl_al (bl0 _) _) _) _) _) hb | exact bl_tr (bl_dr (bl_al (bl_al (bl_al (bl_al (bl0 _) _) _) _) _)) hb | exact bl_tr (bl_al (bl_al (bl_al (bl_al (bl_al (bl0 _) _) _) _) _) _) hb | exact bl_tr (bl_dr (bl_al (bl_al (bl_al (bl_al (bl_al (bl0 _) _) _) _) _) _)) hb | exact bl_tr (bl_al (bl_al (bl_al (bl_al (bl_al (bl_al (bl0 _) _) _) _) _) _) _) hb | exact bl_tr (bl_dr (bl_al (bl_al (bl_al (bl_al (bl_al (bl_al (bl0 _) _) _) _) _) _) _)) hb | exact bl_tr (bl_dr (bl0 _)) hb
  replace hA := bl_tr hA hk
  have b0 := cell_later hb (v := .int .i64 Z) (a := ⟨w.heap.size + 1 + 1, 0, none⟩) (by simp [go_sem])
  have b1 := cell_later hb (v := .int .i64 V) (a := ⟨w.heap.size + 1 + 1, 1, none⟩) (by simp [go_sem])
  clear hb hk
  have zb0 := blk_lt b0
  have zb1 := blk_lt b1
  go_wp2_with fail
  refine (scontains_any b cap2 _ _ _ _ hrc (by omega)).mono ?_
  rintro e w2 ⟨rfl, hb⟩
  have hk : Below w1.heap.size w1 w2 := by first | exact hb | exact bl_tr (bl_al (bl0 _) _) hb | exact bl_tr (bl_dr (bl_al (bl0 _) _)) hb | exact bl_tr (bl_al (bl_al (bl0 _) _) _) hb | exact bl_tr (bl_dr (bl_al (bl_al (bl0 _) _) _)) hb | exact bl_tr (bl_al (bl_al (bl_al (bl0 _) _) _) _) hb | exact bl_tr (bl_dr (bl_al (bl_al (bl_al (bl0 _) _) _) _)) hb | exact bl_tr (bl_al (bl_al (bl_al (bl_al (bl0 _) _) _) _) _) hb | exact bl_tr (bl_dr (bl_al (bl_al (bl_al (bl_al (bl0 _) _) _) _) _)) hb | exact bl_tr (bl_al (bl_al (bl_al (bl_al (bl_al (bl0 _) _) _) _) _) _) hb | exact bl_tr (bl_dr (bl_al (bl_al (bl_al (bl_al (bl_al (bl0 _) _) _) _) _) _)) hb | exact bl_tr (bl_al (bl_al (bl_al (bl_al (bl_al (bl_al (bl0 _) _) _) _) _) _) _) hb | exact bl_tr (bl_dr (bl_al (bl_al (bl_al (bl_al (bl_al (bl_al (bl0 _) _) _) _) _) _) _)) hb | exact bl_tr (bl_dr (bl0 _)) hb
  replace hA := bl_tr hA hk
  clear hb hk
  go_wp2
  go_ret2
  exact ⟨rfl, hA⟩

set_option maxRecDepth 100000 in
set_option maxHeartbeats 2000000 in
theorem rcost_any (A B : Int) (a : Option Addr) (cap : Nat) (zs : List Int) (x y : Int) (w : World) (hr : RowH w a zs) (hin : AllH zs) (hi : inB A B x y = true) (hn : (zs.length : Int) = A * B) :
    Calls Try.prog 95 #[.agg #[.int .i64 A, .int .i64 B, .slice a zs.length cap], .agg #[.int .i64 x, .int .i64 y]] w fun e w' => (∃ z : Int, e = .returned (.int .i64 z) ∧ (z == 0) = wallB A zs (x, y)) ∧ Below w.heap.size w w' := by
  obtain ⟨j, hj, hl⟩ := num_of hi hn
  have hl' : j < zs.length := by omega
  have HW := Lib.hid (wallB_at hj hl')
  obtain ⟨h1, h2, h3, h4, h5, h6, h7, h8⟩ := inB_iff.1 hi
  obtain ⟨m1, m2⟩ := mul_bd h7 (by omega) h1 h2
  have hA := bl_al (bl_al (bl0 w) (.cells #[.int .i64 A, .int .i64 B, .slice a zs.length cap] 26)) (.cells #[.int .i64 x, .int .i64 y] 37)
  have hj0 : (0 : Int) ≤ (j : Int) := by omega
  obtain ⟨gb, go, rfl, q⟩ := hr.cell hl'
  have zq := blk_lt q
  have zq1 : gb < w.heap.size + 1 := by omega
  obtain ⟨z1, z2⟩ := hin.at hl'
  obtain ⟨z, hz⟩ : ∃ z, zs[j] = z := ⟨_, rfl⟩
  rw [hz] at q z1 z2
  have HZ := Lib.hid hz
  have hw : IntKind.i64.wrap z = z := by rw [IntKind.wrap_i64]; omega
  have e1 : IntKind.i64.wrap (y * A) = y * A := IntWalk.i64_in _ (by omega)
  have e2 : IntKind.i64.wrap (y * A + x) = j := by rw [hj]; exact IntWalk.i64_in _ (by omega)
  clear hr hin hi hz
  go_enter Try.func95, Try.ntmps95
  go_wp2
  go_ret
  refine ⟨⟨z, rfl, ?_⟩, hA⟩
  rw [HW.out, HZ.out]
end Go.Proofs.Ythebiibiapjdiaa
