/- Tables within a cluster: the reference's Row. -/
import Derived.Test.YtbdfjdipjacamaaDoorK2
import Derived.Test.YtbdfjdipjacamaaDoorCv
import Derived.Test.YtbdfjdipjacamaaDoorOs
namespace Go.Proofs.YtbdfjdipjacamaaDoor
open Go.RowKit

theorem own_emptyU {w : World} {B : Nat} (t : TypeId) (hB : B ≤ w.heap.size) : (w.alloc (.cells #[] t)).ownsRow B t 1 (.slice (some ⟨w.heap.size, 0, none⟩) 0 0) 0 [] :=
  ⟨rfl, .inr ⟨w.heap.size, 0, #[], rfl, hB, heap_alloc_new w _, Nat.le_refl _, Nat.zero_le _, rfl, rfl⟩⟩
theorem own_shU {W : World} {base n : Nat} {v : Value} {xs : List Value} (h : W.ownsRow base 45 1 v n xs) : ∃ a c, v = .slice a n c := by
  rcases h.2 with ⟨rfl, rfl⟩ | ⟨g, cap, cur, rfl, _⟩
  · exact ⟨none, 0, rfl⟩
  · exact ⟨_, _, rfl⟩
theorem rowU_own2 {W : World} {base n c : Nat} {a : Option Addr} {zs : List Int} (h : W.ownsRow base 45 1 (.slice a n c) n (cellsU zs)) (hl : zs.length = n) : RowU W a zs := by
  rcases h.2 with ⟨e, h0⟩ | ⟨g, cap, cur, e, hb, hg, _⟩
  · exact .inl (List.eq_nil_of_length_eq_zero (by omega))
  · cases e
    exact rowU_own h
def Row13R (L : List Int) (w : World) (e : Ending) (w' : World) : Prop := ∃ a c, e = .returned (.slice a L.length c) ∧ RowU w' a L ∧ Below w.heap.size w w'
set_option maxRecDepth 100000 in
set_option maxHeartbeats 8000000 in
theorem row13_any (A B X Y : Int) (U V : Nat) (a : Option Addr) (cap : Nat) (zs : List Int) (p : IC) (ca : Option Addr) (cc : Nat) (cs : List IC) (w : World) (hr : RowH w a zs) (hz : AllH zs) (hn : (zs.length : Int) = A * B) (hx : BoxOn A B X Y U V) (hp : inBx (X, Y, (U : Int), (V : Int)) p = true) (hcs : RowC w ca cs) (hci : ∀ d ∈ cs, inBx (X, Y, (U : Int), (V : Int)) d = true) (hl : cs.length ≤ 1048576) :
    Calls Tryd.prog 41 #[.agg #[.int .i64 A, .int .i64 B, .slice a zs.length cap], .agg #[.int .i64 X, .int .i64 Y, .int .i64 U, .int .i64 V], .agg #[.int .i64 p.1, .int .i64 p.2], .slice ca cs.length cc] w (Row13R (rowO A (X, Y, (U : Int), (V : Int)) zs p cs) w) := by
  have hA := bl0 w
  obtain ⟨i0, hi0, hz0, hz1, hz2⟩ := info_parts Tryd.infoU
  have H1 := Lib.hid (fun w hr => far8_any A B X Y U V a cap zs p w hr hz hn hx hp)
  have HNU := Lib.hid (fun (d : IC) (hd : inBx (X, Y, (U : Int), (V : Int)) d = true) => (show (IntKind.i64.wrap (d.2 * A) = d.2 * A ∧ IntKind.i64.wrap (d.2 * A + d.1) = (numN A d : Int)) ∧ numN A d < zs.length by
    obtain ⟨o1, _⟩ := hx.on hd
    obtain ⟨i1, i2⟩ := numN_int o1
    exact ⟨num_on o1, by omega⟩))
  have hfl := farO_len A (X, Y, (U : Int), (V : Int)) zs p
  have hrl := rowO_len A (X, Y, (U : Int), (V : Int)) zs p cs
  have HRT := Lib.hid (show ∀ (k : Nat) (hk : k < cs.length), (rowO A (X, Y, (U : Int), (V : Int)) zs p cs).take (k + 1) = (rowO A (X, Y, (U : Int), (V : Int)) zs p cs).take k ++ [atD (farO A (X, Y, (U : Int), (V : Int)) zs p) (numN A cs[k])] from fun k hk => by
    rw [List.take_succ_eq_append_getElem (by rw [rowO_len]; exact hk)]
    congr 2
    simp [rowO])
  obtain ⟨FO, hFO⟩ : ∃ FO, farO A (X, Y, (U : Int), (V : Int)) zs p = FO := ⟨_, rfl⟩
  obtain ⟨R, hR⟩ : ∃ R, rowO A (X, Y, (U : Int), (V : Int)) zs p cs = R := ⟨_, rfl⟩
  rw [hFO] at H1 hfl HRT
  rw [hR] at hrl HRT ⊢
  have HFL := Lib.hid hfl
  have HRL := Lib.hid hrl
  have HCI := Lib.hid hci
  clear hz hn hx hp hci hfl hrl hFO hR
  have hl2 : (cs.length : Int) ≤ 1048576 := by omega
  go_enter Tryd.func41, Tryd.ntmps41
  go_wp2_with fail
  refine (H1.out _ (hr.below (by first | exact hA | exact (bl_al hA _) | exact (bl_dr (bl_al hA _)) | exact (bl_al (bl_al hA _) _) | exact (bl_dr (bl_al (bl_al hA _) _)) | exact (bl_al (bl_al (bl_al hA _) _) _) | exact (bl_dr (bl_al (bl_al (bl_al hA _) _) _)) | exact (bl_al (bl_al (bl_al (bl_al hA _) _) _) _) | exact (bl_dr (bl_al (bl_al (bl_al (bl_al hA _) _) _) _)) | exact (bl_al (bl_al (bl_al (bl_al (bl_al hA _) _) _) _) _) | exact (bl_dr (bl_al (bl_al (bl_al (bl_al (bl_al hA _) _) _) _) _)) | exact (bl_al (bl_al (bl_al (bl_al (bl_al (bl_al hA _) _) _) _) _) _) | exact (bl_dr (bl_al (bl_al (bl_al (bl_al (bl_al (bl_al hA _) _) _) _) _) _)) | exact (bl_dr hA)))).mono ?_
  rintro e w1 ⟨g, rfl, hfu, hb⟩
  have hk : Below w.heap.size w w1 := by first | exact hb | exact bl_tr (bl_al (bl0 _) _) hb | exact bl_tr (bl_dr (bl_al (bl0 _) _)) hb | exact bl_tr (bl_al (bl_al (bl0 _) _) _) hb | exact bl_tr (bl_dr (bl_al (bl_al (bl0 _) _) _)) hb | exact bl_tr (bl_al (bl_al (bl_al (bl0 _) _) _) _) hb | exact bl_tr (bl_dr (bl_al (bl_al (bl_al (bl0 _) _) _) _)) hb | exact bl_tr (bl_al (bl_al (bl_al (bl_al (bl0 _) _) _) _) _) hb | exact bl_tr (bl_dr (bl_al (bl_al (bl_al (bl_al (bl0 _) _) _) _) _)) hb | exact bl_tr (bl_al (bl_al (bl_al (bl_al (bl_al (bl0 _) _) _) _) _) _) hb | exact bl_tr (bl_dr (bl_al (bl_al (bl_al (bl_al (bl_al (bl0 _) _) _) _) _) _)) hb | exact bl_tr (bl_al (bl_al (bl_al (bl_al (bl_al (bl_al (bl0 _) _) _) _) _) _) _) hb | exact bl_tr (bl_dr (bl_al (bl_al (bl_al (bl_al (bl_al (bl_al (bl0 _) _) _) _) _) _) _)) hb | exact bl_tr (bl_dr (bl0 _)) hb
  replace hA := bl_tr hA hk
  have f0 := cell_later hb (v := .int .i64 A) (a := ⟨w.heap.size, 0, none⟩) (by simp [go_sem])
  clear hb hk
  have zf0 := blk_lt f0
  have HFU := Lib.hid hfu
  have HRC := Lib.hid (hcs.below hA)
  have HA := Lib.hid hA
  have F0 := Lib.hid f0
  have HZ := Lib.hid (own_emptyU (w := w1) (B := w1.heap.size) 45 (Nat.le_refl _))
  clear hfu hr hcs hA f0
  go_wp2_with fail
  go_loopw [10, 11] (fun ov iv wr => ∃ k : Nat, k ≤ cs.length ∧ iv = .int .i64 k ∧ wr.ownsRow w1.heap.size 45 1 ov k (cellsU (R.take k)) ∧ Below w1.heap.size w1 wr) (fun _ iv _ => cs.length - (intOf iv).toNat)
  case atStart => exact ⟨0, Nat.zero_le _, rfl, HZ.out, bl_al (bl0 _) _⟩
  case round =>
    obtain ⟨k, hk, rfl, hown, hB⟩ := hrel
    have hk0 : (0 : Int) ≤ (k : Int) := by omega
    by_cases hlt : k < cs.length
    · have hlt2 : (k : Int) < (cs.length : Int) := by omega
      obtain ⟨cb, co, rfl, u0, u1⟩ := (HRC.out.below hB).cell hlt
      have hin := HCI.out _ (List.getElem_mem hlt)
      have hrt := HRT.out k hlt
      obtain ⟨d, hd⟩ : ∃ d, cs[k] = d := ⟨_, rfl⟩
      have HDK := Lib.hid hd
      rw [hd] at u0 u1 hin hrt
      obtain ⟨⟨n1, n2⟩, n3⟩ := HNU.out d hin
      obtain ⟨ix, hix⟩ : ∃ ix, numN A d = ix := ⟨_, rfl⟩
      rw [hix] at n2 n3 hrt
      have hif : ix < FO.length := by rw [HFL.out]; exact n3
      obtain ⟨fb, fo, hh, qf⟩ := (HFU.out.below hB).cell hif
      cases hh
      obtain ⟨v, hv⟩ : ∃ v, atD FO ix = v := ⟨_, rfl⟩
      have HVK := Lib.hid hv
      rw [hv] at qf hrt
      rw [Nat.zero_add] at qf
      have hx0 : (0 : Int) ≤ (ix : Int) := by omega
      have hx1 : (ix : Int) < (zs.length : Int) := by omega
      have f0 := cell_later hB F0.out
      have zf := blk_lt f0
      have HRT2 := Lib.hid hrt
      obtain ⟨va, vc, rfl⟩ := own_shU hown
      clear hd hin hrt hix hv
      go_upto_region 6 with fail
      have hD := bl_dr (bl0 wr)
      refine (wpIn_wide (n := 11)).1 ?_
      refine ordS_begin (S := (fun W9 : World => W9.cell? ⟨w.heap.size, 0, none⟩ = some (.int .i64 A) ∧ W9.cell? ⟨cb, co + k * 2, none⟩ = some (.int .i64 d.1) ∧ W9.cell? ⟨cb, co + k * 2 + 1, none⟩ = some (.int .i64 d.2) ∧ W9.cell? ⟨g, ix, none⟩ = some (.int .u64 v))) (by kernel_rfl) ⟨cell_later hD f0, cell_later hD u0, cell_later hD u1, cell_later hD qf⟩ (fun hH => ?_)
      refine' ordS_take (i := 0) (oi := { dst := some 23, op := Op.move (Operand.tmp 10), type := 33, pos := _, after := #[], guard := none }) (v := _) rfl (by kernel_rfl) (by kernel_rfl) (by kernel_rfl) (by kernel_rfl) (fun _ _ _ h => h) (by assumption) (Or.inl ⟨by rfl, ?hy107⟩) (fun _ => rfl) ?rest107
      case hy107 => (intro w hSw; (try dsimp only at hSw); go_simp; try with_reducible rfl)
      try simp only [Act.put, List.setIfInBounds_toArray, List.set_cons_zero, List.set_cons_succ]
      refine' ordS_take (i := 1) (oi := { dst := some 24, op := Op.move (Operand.tmp 9), type := 33, pos := _, after := #[], guard := none }) (v := _) rfl (by kernel_rfl) (by kernel_rfl) (by kernel_rfl) (by kernel_rfl) (fun _ _ _ h => h) (by assumption) (Or.inl ⟨by rfl, ?hy108⟩) (fun _ => rfl) ?rest108
      case hy108 => (intro w hSw; (try dsimp only at hSw); go_simp; try with_reducible rfl)
      try simp only [Act.put, List.setIfInBounds_toArray, List.set_cons_zero, List.set_cons_succ]
      refine' ordS_take (i := 2) (oi := { dst := some 25, op := Op.move (Operand.tmp 3), type := 44, pos := _, after := #[], guard := none }) (v := _) rfl (by kernel_rfl) (by kernel_rfl) (by kernel_rfl) (by kernel_rfl) (fun _ _ _ h => h) (by assumption) (Or.inl ⟨by rfl, ?hy109⟩) (fun _ => rfl) ?rest109
      case hy109 => (intro w hSw; (try dsimp only at hSw); go_simp; try with_reducible rfl)
      try simp only [Act.put, List.setIfInBounds_toArray, List.set_cons_zero, List.set_cons_succ]
      refine' ordS_take (i := 3) (oi := { dst := some 26, op := Op.move (Operand.tmp 11), type := 3, pos := _, after := #[], guard := none }) (v := _) rfl (by kernel_rfl) (by kernel_rfl) (by kernel_rfl) (by kernel_rfl) (fun _ _ _ h => h) (by assumption) (Or.inl ⟨by rfl, ?hy110⟩) (fun _ => rfl) ?rest110
      case hy110 => (intro w hSw; (try dsimp only at hSw); go_simp; try with_reducible rfl)
      try simp only [Act.put, List.setIfInBounds_toArray, List.set_cons_zero, List.set_cons_succ]
      refine' ordS_take (i := 4) (oi := { dst := some 27, op := Op.indexAddr 44 (Operand.tmp 25) (Operand.tmp 26), type := 0, pos := _, after := #[{ on := 2, ground := Ground.data }, { on := 3, ground := Ground.data }], guard := none }) (v := _) rfl (by kernel_rfl) (by kernel_rfl) (by kernel_rfl) (by kernel_rfl) (fun _ _ _ h => h) (by assumption) (Or.inl ⟨by rfl, ?hy111⟩) (fun _ => rfl) ?rest111
      case hy111 => (intro w hSw; (try dsimp only at hSw); go_simp; try with_reducible rfl)
      try simp only [Act.put, List.setIfInBounds_toArray, List.set_cons_zero, List.set_cons_succ]
      refine' ordS_take (i := 5) (oi := { dst := some 28, op := Op.fieldAddr 30 (Operand.tmp 27) 1, type := 0, pos := _, after := #[{ on := 4, ground := Ground.data }], guard := none }) (v := _) rfl (by kernel_rfl) (by kernel_rfl) (by kernel_rfl) (by kernel_rfl) (fun _ _ _ h => h) (by assumption) (Or.inl ⟨by rfl, ?hy112⟩) (fun _ => rfl) ?rest112
      case hy112 => (intro w hSw; (try dsimp only at hSw); go_simp; try with_reducible rfl)
      try simp only [Act.put, List.setIfInBounds_toArray, List.set_cons_zero, List.set_cons_succ]
      refine' ordS_take (i := 6) (oi := { dst := some 29, op := Op.load 3 (Operand.tmp 28), type := 3, pos := _, after := #[{ on := 5, ground := Ground.data }], guard := none }) (v := _) rfl (by kernel_rfl) (by kernel_rfl) (by kernel_rfl) (by kernel_rfl) (fun _ _ _ h => h) (by assumption) (Or.inl ⟨by rfl, ?hy113⟩) (fun _ => rfl) ?rest113
      case hy113 => (intro w hSw; (try dsimp only at hSw); go_simp; try with_reducible rfl)
      try simp only [Act.put, List.setIfInBounds_toArray, List.set_cons_zero, List.set_cons_succ]
      refine' ordS_take (i := 7) (oi := { dst := some 30, op := Op.fieldAddr 26 (Operand.tmp 4) 0, type := 0, pos := _, after := #[], guard := none }) (v := _) rfl (by kernel_rfl) (by kernel_rfl) (by kernel_rfl) (by kernel_rfl) (fun _ _ _ h => h) (by assumption) (Or.inl ⟨by rfl, ?hy114⟩) (fun _ => rfl) ?rest114
      case hy114 => (intro w hSw; (try dsimp only at hSw); go_simp; try with_reducible rfl)
      try simp only [Act.put, List.setIfInBounds_toArray, List.set_cons_zero, List.set_cons_succ]
      refine' ordS_take (i := 8) (oi := { dst := some 31, op := Op.fieldAddr 23 (Operand.tmp 30) 0, type := 0, pos := _, after := #[{ on := 7, ground := Ground.data }], guard := none }) (v := _) rfl (by kernel_rfl) (by kernel_rfl) (by kernel_rfl) (by kernel_rfl) (fun _ _ _ h => h) (by assumption) (Or.inl ⟨by rfl, ?hy115⟩) (fun _ => rfl) ?rest115
      case hy115 => (intro w hSw; (try dsimp only at hSw); go_simp; try with_reducible rfl)
      try simp only [Act.put, List.setIfInBounds_toArray, List.set_cons_zero, List.set_cons_succ]
      refine' ordS_take (i := 9) (oi := { dst := some 32, op := Op.load 3 (Operand.tmp 31), type := 3, pos := _, after := #[{ on := 8, ground := Ground.data }], guard := none }) (v := _) rfl (by kernel_rfl) (by kernel_rfl) (by kernel_rfl) (by kernel_rfl) (fun _ _ _ h => h) (by assumption) (Or.inl ⟨by rfl, ?hy116⟩) (fun _ => rfl) ?rest116
      case hy116 => (intro w hSw; (try dsimp only at hSw); go_simp; try with_reducible rfl)
      try simp only [Act.put, List.setIfInBounds_toArray, List.set_cons_zero, List.set_cons_succ]
      refine' ordS_take (i := 10) (oi := { dst := some 33, op := Op.binOp BinOp.mul 3 (Operand.tmp 29) (Operand.tmp 32) 3, type := 3, pos := _, after := #[{ on := 6, ground := Ground.data }, { on := 9, ground := Ground.data }], guard := none }) (v := _) rfl (by kernel_rfl) (by kernel_rfl) (by kernel_rfl) (by kernel_rfl) (fun _ _ _ h => h) (by assumption) (Or.inl ⟨by rfl, ?hy117⟩) (fun _ => rfl) ?rest117
      case hy117 => (intro w hSw; (try dsimp only at hSw); go_simp; try with_reducible rfl)
      try simp only [Act.put, List.setIfInBounds_toArray, List.set_cons_zero, List.set_cons_succ]
      refine' ordS_take (i := 11) (oi := { dst := some 34, op := Op.move (Operand.tmp 3), type := 44, pos := _, after := #[], guard := none }) (v := _) rfl (by kernel_rfl) (by kernel_rfl) (by kernel_rfl) (by kernel_rfl) (fun _ _ _ h => h) (by assumption) (Or.inl ⟨by rfl, ?hy118⟩) (fun _ => rfl) ?rest118
      case hy118 => (intro w hSw; (try dsimp only at hSw); go_simp; try with_reducible rfl)
      try simp only [Act.put, List.setIfInBounds_toArray, List.set_cons_zero, List.set_cons_succ]
      refine' ordS_take (i := 12) (oi := { dst := some 35, op := Op.move (Operand.tmp 11), type := 3, pos := _, after := #[], guard := none }) (v := _) rfl (by kernel_rfl) (by kernel_rfl) (by kernel_rfl) (by kernel_rfl) (fun _ _ _ h => h) (by assumption) (Or.inl ⟨by rfl, ?hy119⟩) (fun _ => rfl) ?rest119
      case hy119 => (intro w hSw; (try dsimp only at hSw); go_simp; try with_reducible rfl)
      try simp only [Act.put, List.setIfInBounds_toArray, List.set_cons_zero, List.set_cons_succ]
      refine' ordS_take (i := 13) (oi := { dst := some 36, op := Op.indexAddr 44 (Operand.tmp 34) (Operand.tmp 35), type := 0, pos := _, after := #[{ on := 11, ground := Ground.data }, { on := 12, ground := Ground.data }], guard := none }) (v := _) rfl (by kernel_rfl) (by kernel_rfl) (by kernel_rfl) (by kernel_rfl) (fun _ _ _ h => h) (by assumption) (Or.inl ⟨by rfl, ?hy120⟩) (fun _ => rfl) ?rest120
      case hy120 => (intro w hSw; (try dsimp only at hSw); go_simp; try with_reducible rfl)
      try simp only [Act.put, List.setIfInBounds_toArray, List.set_cons_zero, List.set_cons_succ]
      refine' ordS_take (i := 14) (oi := { dst := some 37, op := Op.fieldAddr 30 (Operand.tmp 36) 0, type := 0, pos := _, after := #[{ on := 13, ground := Ground.data }], guard := none }) (v := _) rfl (by kernel_rfl) (by kernel_rfl) (by kernel_rfl) (by kernel_rfl) (fun _ _ _ h => h) (by assumption) (Or.inl ⟨by rfl, ?hy121⟩) (fun _ => rfl) ?rest121
      case hy121 => (intro w hSw; (try dsimp only at hSw); go_simp; try with_reducible rfl)
      try simp only [Act.put, List.setIfInBounds_toArray, List.set_cons_zero, List.set_cons_succ]
      refine' ordS_take (i := 15) (oi := { dst := some 38, op := Op.load 3 (Operand.tmp 37), type := 3, pos := _, after := #[{ on := 14, ground := Ground.data }], guard := none }) (v := _) rfl (by kernel_rfl) (by kernel_rfl) (by kernel_rfl) (by kernel_rfl) (fun _ _ _ h => h) (by assumption) (Or.inl ⟨by rfl, ?hy122⟩) (fun _ => rfl) ?rest122
      case hy122 => (intro w hSw; (try dsimp only at hSw); go_simp; try with_reducible rfl)
      try simp only [Act.put, List.setIfInBounds_toArray, List.set_cons_zero, List.set_cons_succ]
      refine' ordS_take (i := 16) (oi := { dst := some 39, op := Op.binOp BinOp.add 3 (Operand.tmp 33) (Operand.tmp 38) 3, type := 3, pos := _, after := #[{ on := 10, ground := Ground.data }, { on := 15, ground := Ground.data }], guard := none }) (v := _) rfl (by kernel_rfl) (by kernel_rfl) (by kernel_rfl) (by kernel_rfl) (fun _ _ _ h => h) (by assumption) (Or.inl ⟨by rfl, ?hy123⟩) (fun _ => rfl) ?rest123
      case hy123 => (intro w hSw; (try dsimp only at hSw); go_simp; try with_reducible rfl)
      try simp only [Act.put, List.setIfInBounds_toArray, List.set_cons_zero, List.set_cons_succ]
      refine' ordS_take (i := 17) (oi := { dst := some 40, op := Op.indexAddr 33 (Operand.tmp 24) (Operand.tmp 39), type := 0, pos := _, after := #[{ on := 1, ground := Ground.data }, { on := 16, ground := Ground.data }], guard := none }) (v := _) rfl (by kernel_rfl) (by kernel_rfl) (by kernel_rfl) (by kernel_rfl) (fun _ _ _ h => h) (by assumption) (Or.inl ⟨by rfl, ?hy124⟩) (fun _ => rfl) ?rest124
      case hy124 => (intro w hSw; (try dsimp only at hSw); go_simp; try with_reducible rfl)
      try simp only [Act.put, List.setIfInBounds_toArray, List.set_cons_zero, List.set_cons_succ]
      refine' ordS_take (i := 18) (oi := { dst := some 41, op := Op.load 45 (Operand.tmp 40), type := 45, pos := _, after := #[{ on := 17, ground := Ground.data }], guard := none }) (v := _) rfl (by kernel_rfl) (by kernel_rfl) (by kernel_rfl) (by kernel_rfl) (fun _ _ _ h => h) (by assumption) (Or.inl ⟨by rfl, ?hy125⟩) (fun _ => rfl) ?rest125
      case hy125 => (intro w hSw; (try dsimp only at hSw); go_simp; try with_reducible rfl)
      try simp only [Act.put, List.setIfInBounds_toArray, List.set_cons_zero, List.set_cons_succ]
      obtain ⟨W2, hW2⟩ : ∃ W2, wr.drew = W2 := ⟨_, rfl⟩
      rw [hW2] at hD hH
      rw [hW2]
      clear hW2
      have hown2 := own_later hown hD
      have hB2 := bl_tr hB hD
      replace f0 := cell_later hD f0; replace u0 := cell_later hD u0; replace u1 := cell_later hD u1; replace qf := cell_later hD qf
      refine ordS_one (i := 19) (o := { dst := some 42, op := Op.buildSlice 33 1 #[(0, Operand.tmp 41)], type := 33, pos := _, after := #[{ on := 18, ground := Ground.data }], guard := none }) (by kernel_rfl) rfl (by rfl) (fun K hK => ?_)
      go_simp
      have hb := bl_al (bl0 W2) (.cells #[.int .u64 v] 45)
      have hS3 := And.intro (cell_later hb f0) (And.intro (cell_later hb u0) (And.intro (cell_later hb u1) (cell_later hb qf)))
      refine hK _ _ hS3 ?_
      clear hK K
      try simp only [Act.put, List.setIfInBounds_toArray, List.set_cons_zero, List.set_cons_succ]
      refine ordS_append (i := 20) (o := { dst := some 43, op := Op.call { callee := Callee.builtin Builtin.append, args := #[Operand.tmp 23, Operand.tmp 42], argTypes := #[33, 33] }, type := 33, pos := _, after := #[{ on := 0, ground := Ground.data }, { on := 19, ground := Ground.data }], guard := none }) _ (by kernel_rfl) rfl (by rfl) _ _ 33 rfl w1.heap.size 45 i0 (.int .u64 0) 1 8 Tryd.underlying33 hi0 hz0 hz1 hz2 rfl (by decide) _ _ _ rfl (own_later hown2 hb) ⟨W2.heap.size, 0, none⟩ 1 1 [.int .u64 v] rfl rfl ?c1 ?c2 ?c3 ?c4 ?c5 ?_
      case c1 =>
        intro j u hu
        match j with
        | 0 => simp at hu; subst hu; simp [go_sem]
        | j + 1 => simp at hu
      case c2 => intro u' hu; simp at hu; rcases hu with rfl; rfl
      case c3 => unfold maxLen; omega
      case c4 => omega
      case c5 => (have := hB2.size; first | (simp; omega) | omega)
      intro v2 w10 hown' hgrow
      have hB5 : Below w1.heap.size w1 w10 := (bl_al hB2 (.cells #[.int .u64 v] 45)).grown hgrow (by have := hB2.size; simp; omega) (fun j hj => by have := ((own_later hown2 hb).lt j hj).1; omega)
      have hnb : ∀ j, j < w1.heap.size → some j ≠ (Value.slice va k vc).ownBlock := fun j hj e => by have := ((own_later hown2 hb).lt j e.symm).1; omega
      have hS10 := And.intro (cell_later hB5 F0.out) (And.intro (show w10.cell? ⟨cb, co + k * 2, none⟩ = some (.int .i64 d.1) from by
        obtain ⟨cb', co', h1, h2, h3⟩ := (HRC.out.below hB5).cell hlt
        cases h1
        rw [HDK.out] at h2
        exact h2) (And.intro (show w10.cell? ⟨cb, co + k * 2 + 1, none⟩ = some (.int .i64 d.2) from by
        obtain ⟨cb', co', h1, h2, h3⟩ := (HRC.out.below hB5).cell hlt
        cases h1
        rw [HDK.out] at h3
        exact h3) (show w10.cell? ⟨g, ix, none⟩ = some (.int .u64 v) from by
        obtain ⟨fb', fo', h1, h2⟩ := (HFU.out.below hB5).cell hif
        cases h1
        rw [HVK.out, Nat.zero_add] at h2
        exact h2)))
      refine ⟨hS10, ?_⟩
      try simp only [Act.put, List.setIfInBounds_toArray, List.set_cons_zero, List.set_cons_succ]
      first
        | (refine' ordS_take (i := 21) (oi := { dst := some 10, op := Op.assign (Operand.tmp 43), type := 33, pos := _, after := #[{ on := 20, ground := Ground.data }, { on := 20, ground := Ground.chain }, { on := 0, ground := Ground.phase }, { on := 1, ground := Ground.phase }, { on := 2, ground := Ground.phase }, { on := 3, ground := Ground.phase }, { on := 4, ground := Ground.phase }, { on := 5, ground := Ground.phase }, { on := 6, ground := Ground.phase }, { on := 7, ground := Ground.phase }, { on := 8, ground := Ground.phase }, { on := 9, ground := Ground.phase }, { on := 10, ground := Ground.phase }, { on := 11, ground := Ground.phase }, { on := 12, ground := Ground.phase }, { on := 13, ground := Ground.phase }, { on := 14, ground := Ground.phase }, { on := 15, ground := Ground.phase }, { on := 16, ground := Ground.phase }, { on := 17, ground := Ground.phase }, { on := 18, ground := Ground.phase }, { on := 19, ground := Ground.phase }, { on := 20, ground := Ground.phase }], guard := none }) (v := _) rfl (by kernel_rfl) (by kernel_rfl) (by kernel_rfl) (by kernel_rfl) (fun _ _ _ h => h) (by assumption) (Or.inl ⟨by rfl, ?hy126⟩) (fun _ => rfl) ?rest126
           case hy126 => (intro w hSw; (try dsimp only at hSw); go_simp; try with_reducible rfl))
        | (refine ordS_take (i := 21) (oi := { dst := some 10, op := Op.assign (Operand.tmp 43), type := 33, pos := _, after := #[{ on := 20, ground := Ground.data }, { on := 20, ground := Ground.chain }, { on := 0, ground := Ground.phase }, { on := 1, ground := Ground.phase }, { on := 2, ground := Ground.phase }, { on := 3, ground := Ground.phase }, { on := 4, ground := Ground.phase }, { on := 5, ground := Ground.phase }, { on := 6, ground := Ground.phase }, { on := 7, ground := Ground.phase }, { on := 8, ground := Ground.phase }, { on := 9, ground := Ground.phase }, { on := 10, ground := Ground.phase }, { on := 11, ground := Ground.phase }, { on := 12, ground := Ground.phase }, { on := 13, ground := Ground.phase }, { on := 14, ground := Ground.phase }, { on := 15, ground := Ground.phase }, { on := 16, ground := Ground.phase }, { on := 17, ground := Ground.phase }, { on := 18, ground := Ground.phase }, { on := 19, ground := Ground.phase }, { on := 20, ground := Ground.phase }], guard := none }) (v := undef) rfl (by kernel_rfl) (by kernel_rfl) (by kernel_rfl) (by kernel_rfl) (fun _ _ _ h => h) (by assumption) (Or.inr ⟨by rfl, rfl⟩) (fun _ => rfl) ?_)
      try simp only [Act.put, List.setIfInBounds_toArray, List.set_cons_zero, List.set_cons_succ]
      refine ordS_done (by kernel_rfl) ?_
      have e : cellsU (R.take k) ++ [.int .u64 v] = cellsU (R.take (k + 1)) := by rw [HRT2.out]; simp [cellsU]
      rw [e] at hown'
      clear hgrow hown hown2 hB2 hS3 hb hS10 hH hD f0 u0 u1 qf zf e
      go_wp2
      go_roundw
      case rel => exact ⟨k + 1, by omega, by go_num, hown', hB5⟩
      case measure => simp [intOf]; omega
    · obtain rfl : k = cs.length := by omega
      have hge : ¬ (cs.length : Int) < (cs.length : Int) := by omega
      obtain ⟨va, vc, rfl⟩ := own_shU hown
      have hall : R.take cs.length = R := by rw [← HRL.out]; exact List.take_length
      rw [hall] at hown
      have HRU := Lib.hid (rowU_own2 hown HRL.out)
      have HA9 := Lib.hid (bl_tr HA.out hB)
      clear hown hB hall
      go_wp2
      go_ret
      exact ⟨va, vc, by rw [HRL.out]; rfl, HRU.out, HA9.out⟩
end Go.Proofs.YtbdfjdipjacamaaDoor
