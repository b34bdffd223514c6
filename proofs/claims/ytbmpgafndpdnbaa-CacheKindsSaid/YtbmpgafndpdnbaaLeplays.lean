/- CachePlays: its walk. -/
import Derived.Test.YtbmpgafndpdnbaaEze
import Derived.Deep.CutBlock
namespace Go.Proofs.Ytbmpgafndpdnbaa
open Go.RowKit Go.Maps

theorem Sep.perm {W : World} {B : Nat} {l l' : List Own} (h : Sep W B l) (hp : l.Perm l') : Sep W B l' := by
  obtain ⟨h0, Z, h1, h2, h3⟩ := h
  have hz : ∀ {x y : List Own}, x.Perm y → ∀ Z : List (Own × (Nat → Prop)), Z.map Prod.fst = x → ∃ Z' : List (Own × (Nat → Prop)), Z'.Perm Z ∧ Z'.map Prod.fst = y := by
    intro x y hxy
    induction hxy with
    | nil => intro Z h; exact ⟨Z, List.Perm.refl _, h⟩
    | cons a _ ih =>
      intro Z h
      obtain ⟨z, Z2, rfl, e1, e2⟩ := List.map_eq_cons_iff.1 h
      obtain ⟨Z', q1, q2⟩ := ih Z2 e2
      exact ⟨z :: Z', q1.cons z, by rw [List.map_cons, q2, e1]⟩
    | swap a b l =>
      intro Z h
      obtain ⟨z, Z2, rfl, e1, e2⟩ := List.map_eq_cons_iff.1 h
      obtain ⟨y, Z3, rfl, e3, e4⟩ := List.map_eq_cons_iff.1 e2
      exact ⟨y :: z :: Z3, List.Perm.swap _ _ _, by rw [List.map_cons, List.map_cons, e1, e3, e4]⟩
    | trans _ _ ih1 ih2 =>
      intro Z h
      obtain ⟨Z1, q1, q2⟩ := ih1 Z h
      obtain ⟨Z2, q3, q4⟩ := ih2 Z1 q2
      exact ⟨Z2, q3.trans q1, q4⟩
  obtain ⟨Z', q1, q2⟩ := hz hp Z h1
  exact ⟨h0, Z', q2, fun z hz => h2 z (q1.mem_iff.1 hz), h3.perm q1.symm (fun {x y} h k hk hx => h k hx hk)⟩
theorem box3 {W : World} {B X : Nat} {z : AT} {l1 l2 : List Own} (h : Sep W B (l1 ++ CellsO X #[.int .i64 z.d, .int .i64 z.k, .int .i64 z.v] 34 :: l2)) : W.cell? ⟨X, 0, none⟩ = some (.int .i64 z.d) ∧ W.cell? ⟨X, 1, none⟩ = some (.int .i64 z.k) ∧ W.cell? ⟨X, 2, none⟩ = some (.int .i64 z.v) := by
  have hc := h.cells.1
  exact ⟨by simp [World.cell?, hc], by simp [World.cell?, hc], by simp [World.cell?, hc]⟩
abbrev XO (X : Nat) (z : AT) : Own := CellsO X #[.int .i64 z.d, .int .i64 z.k, .int .i64 z.v] 34
set_option maxRecDepth 100000 in
set_option maxHeartbeats 16000000 in
theorem cplays_walk (a : Option Addr) (ca : Nat) (ls : List AT) (r : Int) (w : World) (hr : RowA w a ls) :
    Calls Try.prog 3 #[.int .i64 r, .slice a ls.length ca] w fun e w' => e = .returned (.bool true) ∧ Below w.heap.size w w' := by
  have hmf : ∀ (fn : Fn) (first cap : Array Value) (w : World), (Instr.makeFunc fn first cap).run Try.prog w = .ok (.func fn first cap) w := fun _ _ _ _ => rfl
  have h0 : Sep w w.heap.size [] := Sep.nil (Nat.le_refl _)
  by_cases h1 : 1 ≤ r ∧ r ≤ 16
  · have hr1 : ¬ r < 1 := by omega
    have hr2 : ¬ (16 : Int) < r := by omega
    have hr1d : decide (r < 1) = false := decide_eq_false hr1
    have hr2d : decide ((16 : Int) < r) = false := decide_eq_false hr2
    have hr3 : (1 : Int) ≤ r := h1.1
    have hr4 : r ≤ (16 : Int) := h1.2
    by_cases hl : 200 < ls.length
    · have hlI : (200 : Int) < (ls.length : Int) := by omega
      clear hr
      go_enter Try.func3, Try.ntmps3
      go_wp2_with fail
      refine (new_s1 h0 h1).mono ?_
      rintro e w1 ⟨p, rfl, hs1, hA⟩
      go_wp2_with fail
      refine (len_s1 (l1 := []) (l2 := []) hs1).mono ?_
      rintro e w2 ⟨rfl, rfl⟩
      go_wp2_with fail
      refine (len_s1 (l1 := []) (l2 := []) hs1).mono ?_
      rintro e w3 ⟨rfl, rfl⟩
      clear hs1 h0 h1
      have HA := Lib.hid hA
      clear hA
      go_wp2_with fail
      refine (awake16 _).mono ?_
      rintro e w9 ⟨rfl, hb⟩
      have HZ := Lib.hid (bl_tr HA.out hb)
      clear hb HA
      go_wp2
      go_ret
      exact ⟨rfl, HZ.out⟩
    · have hl1 : (ls.length : Int) ≤ 200 := by omega
      have hl2 : ls.length ≤ 200 := by omega
      have hl3 : decide ((200 : Int) < (ls.length : Int)) = false := decide_eq_false (by omega)
      have H1 := Lib.hid h1
      have HR := Lib.hid hr
      clear hr hl
      go_enter Try.func3, Try.ntmps3
      go_wp2_with fail
      refine (new_s1 h0 h1).mono ?_
      rintro e w1 ⟨p, rfl, hs1, hA⟩
      go_wp2_with fail
      refine (len_s1 (l1 := []) (l2 := []) hs1).mono ?_
      rintro e w2 ⟨rfl, rfl⟩
      obtain ⟨W0, hW0⟩ : ∃ W0, w2.alloc (.cells #[.int .i64 r, .slice none 0 0] 32) = W0 := ⟨_, rfl⟩
      have HS0 : Hid (Sep W0 w.heap.size (RC w2.heap.size r (.slice none 0 0) [] [CO Try.c1 p r []])) := Lib.hid (by
        have h := TO.nil (hs1.box #[.int .i64 r, .slice none 0 0] 32)
        rw [hW0] at h
        exact h.perm (List.perm_append_comm (l₁ := [CO Try.c1 p r []]) (l₂ := [RO w2.heap.size r (.slice none 0 0), TO (.slice none 0 0) []])))
      have HA0 := Lib.hid (show Below w.heap.size w W0 from by rw [← hW0]; exact bl_al hA _)
      obtain ⟨R, hR⟩ : ∃ R, w2.heap.size = R := ⟨_, rfl⟩
      rw [hR] at HS0
      clear hs1 h0 h1 hA
      go_upto_region 7 with fail
      clear hW0 hR
      go_wp2_with fail
      go_loopw [8] (fun i wr => ∃ (k : Nat) (m : List IT) (v : Value) (l : List Own), k ≤ ls.length ∧ i = .int .i64 k ∧ Hid (Fit r m) ∧ Hid (Sep wr w.heap.size (RC R r v m (CO Try.c1 p r m :: l))) ∧ Hid (Below w.heap.size w wr)) (fun i _ => ls.length - (intOf i).toNat)
      case atStart => exact ⟨0, [], _, [], Nat.zero_le _, rfl, Lib.hid (Fit.nil H1.out.1), HS0, HA0⟩
      case round =>
        obtain ⟨k, m, v, l, hk, rfl, HM, HSr, HAr⟩ := hrel
        have hk0 : (0 : Int) ≤ (k : Int) := by omega
        have hm16 := HM.out.small H1.out.2
        by_cases hlt : k < ls.length
        · have hlt2 : (k : Int) < (ls.length : Int) := by omega
          obtain ⟨z, hz⟩ : ∃ z, ls[k]? = some z := ⟨_, List.getElem?_eq_getElem hlt⟩
          obtain ⟨b, o, rfl, c0, c1, c2⟩ := (HR.out.below HAr.out).at hz
          have zc := blk_lt c1
          clear hz
          go_upto_region 11 with fail
          obtain ⟨W0, hW0⟩ : ∃ W0, wr.alloc (.cells #[.int .i64 z.d, .int .i64 z.k, .int .i64 z.v] 34) = W0 := ⟨_, rfl⟩
          obtain ⟨X, hX⟩ : ∃ X, wr.heap.size = X := ⟨_, rfl⟩
          have hsx := HSr.out.box #[.int .i64 z.d, .int .i64 z.k, .int .i64 z.v] 34
          rw [hW0, hX] at hsx
          have HSX := Lib.hid (show Sep W0 w.heap.size (RC R r v m (CO Try.c1 p r m :: (l ++ [XO X z]))) from hsx)
          have HAX := Lib.hid (show Below w.heap.size w W0 from by rw [← hW0]; exact bl_al HAr.out _)
          rw [hW0, hX]
          obtain ⟨x0, x1, x2⟩ := box3 (l1 := RC R r v m (CO Try.c1 p r m :: l)) (l2 := []) HSX.out
          have zx := blk_lt x0
          clear hW0 hX hsx c0 c1 c2 zc HSr HAr
          go_upto_block 2 with fail
          go_cut [8] from 87 to 192 (fun s wx => s = .int .i64 k ∧ ∃ (m2 : List IT) (v2 : Value) (l2 : List Own), Hid (Fit r m2) ∧ Hid (Sep wx w.heap.size (RC R r v2 m2 (CO Try.c1 p r m2 :: l2))) ∧ Hid (Below w.heap.size w wx))
          case first =>
            have hl1' : ∀ (W : World) (mm : List IT) (vv : Value) (ll : List Own), Sep W w.heap.size (RC R r vv m (CO Try.c1 p r mm :: ll)) → Sep W w.heap.size ([RO R r vv, TO vv m] ++ CO Try.c1 p r mm :: ll) := fun _ _ _ _ h => h
            by_cases q0 : z.d = 0
            · have b0 : (z.d == 0) = true := by simp [q0]
              have hcall := get_s1 z.k (hl1' _ _ _ _ HSX.out) (by omega)
              have HM2 := Lib.hid (HM.out.get (k := z.k) H1.out.1)
              clear q0 hl1'
              go_wp2_with fail
              refine hcall.mono ?_
              rintro e W1 ⟨rfl, hs1, hb1⟩
              have HA1 := Lib.hid (HAX.out.trans hb1)
              have hs1' : Sep W1 w.heap.size (RC R r v m (CO Try.c1 p r (getM z.k m) :: (l ++ [XO X z]))) := hs1
              have hcall := rget_any z.k W1 hs1' (by omega)
              obtain ⟨y0, y1, y2⟩ := box3 (l1 := RC R r v m (CO Try.c1 p r (getM z.k m) :: l)) (l2 := []) hs1'
              have zy := blk_lt y0
              clear hs1 hs1' hb1 x0 x1 x2 zx
              go_wp2_with fail
              refine hcall.mono ?_
              rintro e W2 ⟨rfl, ⟨v2, hs2⟩, hb2⟩
              have HS2 := Lib.hid hs2
              have HA2 := Lib.hid (HA1.out.trans hb2)
              clear hs2 hb2 hcall y0 y1 y2 zy
              generalize peekV z.k m = g1
              generalize (findI z.k m).isSome = g2
              have hg1 : (g1 != g1) = false := by simp
              have hg2 : (g2 != g2) = false := by cases g2 <;> rfl
              go_wp2
              go_meet
              case rel => exact ⟨rfl, _, v2, _, HM2, HS2, HA2⟩
            have b0 : (z.d == 0) = false := by simp [q0]
            by_cases q1 : z.d = 1
            · have b1 : (z.d == 1) = true := by simp [q1]
              have hcall := peek_s1 z.k (hl1' _ _ _ _ HSX.out) (by omega)
              clear q0 q1 hl1'
              go_wp2_with fail
              refine hcall.mono ?_
              rintro e W1 ⟨rfl, hs1, hb1⟩
              have HA1 := Lib.hid (bl_tr HAX.out hb1)
              have hs1' : Sep W1 w.heap.size (RC R r v m (CO Try.c1 p r m :: (l ++ [XO X z]))) := hs1
              obtain ⟨ra, rcap, rfl, hrc, hrow⟩ := RC.row hs1'
              obtain ⟨f0, f1, f2, f3⟩ := RC.cells hs1'
              have hcall := rfind_any z.k R ra rcap m W1 (by omega) f1 hrow
              obtain ⟨y0, y1, y2⟩ := box3 (l1 := RC R r (.slice ra m.length rcap) m (CO Try.c1 p r m :: l)) (l2 := []) hs1'
              have zy := blk_lt y0
              have HS1 := Lib.hid hs1'
              have HR1 := Lib.hid hrow
              have HF1 := Lib.hid f1
              clear hs1 hs1' hb1 x0 x1 x2 zx hrow f0 f1 f2 f3
              go_wp2_with fail
              refine hcall.mono ?_
              rintro e W2 ⟨rfl, rfl⟩
              clear hcall y0 y1 y2 zy
              unfold peekV
              cases hf : findI z.k m with
              | none =>
                clear hf
                try dsimp only [idxV, Option.isSome]
                go_wp2
                go_meet
                case rel => exact ⟨rfl, m, _, _, HM, HS1, HA1⟩
              | some i =>
                obtain ⟨hi, _, _⟩ := findI_some hf
                have hx := atI_get hi
                obtain ⟨x, hxx⟩ : ∃ x, atI m i = x := ⟨_, rfl⟩
                rw [hxx] at hx
                obtain ⟨g, rfl, d0, d1⟩ := HR1.out.at hx
                have zd := blk_lt d1
                have f1 := HF1.out
                have zf := blk_lt f1
                have hi0 : (0 : Int) ≤ (i : Int) := by omega
                have hi1 : (i : Int) < (m.length : Int) := by omega
                have hne : (x.2 != x.2) = false := by simp
                clear hf hi hx
                try dsimp only [idxV, Option.isSome]
                rw [hxx]
                go_wp2
                go_meet
                case rel => exact ⟨rfl, m, _, _, HM, HS1, HA1⟩
            have b1 : (z.d == 1) = false := by simp [q1]
            by_cases q2 : z.d = 2
            · have b2 : (z.d == 2) = true := by simp [q2]
              have hby := by16_any z W0
              have HN := Lib.hid (byN_in z)
              generalize byN z = n at *
              generalize byL z = lf at *
              obtain ⟨hn1, hn2⟩ := HN.out
              have HM2 := Lib.hid (HM.out.drop (goes n lf))
              clear q0 q1 q2
              go_wp2_with fail
              refine hby.mono ?_
              rintro e W1 ⟨rfl, hb1⟩
              have HS1 := Lib.hid (HSX.out.below hb1)
              have HA1 := Lib.hid (bl_tr HAX.out hb1)
              clear hb1 hby x0 x1 x2 zx
              go_upto_region 28 with fail
              obtain ⟨W2, hW2⟩ : ∃ W2, (W1.alloc (.cells #[.int .i64 n] 3)).alloc (.cells #[.int .i64 lf] 3) = W2 := ⟨_, rfl⟩
              obtain ⟨Q, hQ⟩ : ∃ Q, W1.heap.size = Q := ⟨_, rfl⟩
              have hs2 := (HS1.out.box #[.int .i64 n] 3).box #[.int .i64 lf] 3
              rw [World.size_alloc, hW2, hQ] at hs2
              have HA2 := Lib.hid (show Below w.heap.size w W2 from by rw [← hW2]; exact bl_al (bl_al HA1.out _) _)
              rw [hW2, hQ]
              have HS2 := Lib.hid (show Sep W2 w.heap.size (RC R r v m (CO Try.c1 p r m :: (l ++ [XO X z, CellsO Q #[.int .i64 n] 3, CellsO (Q + 1) #[.int .i64 lf] 3]))) from by simpa using hs2)
              clear hW2 hQ hs2 HS1 HA1
              have hD := bl_dr (bl0 W2)
              have hs3 := HS2.out.below hD
              have hcells : ∀ (W : World) (mm : List IT) (vv : Value) (mr : List IT), Sep W w.heap.size (RC R r vv mr (CO Try.c1 p r mm :: (l ++ [XO X z, CellsO Q #[.int .i64 n] 3, CellsO (Q + 1) #[.int .i64 lf] 3]))) → W.cell? ⟨Q, 0, none⟩ = some (.int .i64 n) ∧ W.cell? ⟨Q + 1, 0, none⟩ = some (.int .i64 lf) := fun W mm vv mr h => by
                have e1 := (Sep.cells (l1 := RC R r vv mr (CO Try.c1 p r mm :: (l ++ [XO X z]))) (l2 := [CellsO (Q + 1) #[.int .i64 lf] 3]) (by simpa using h)).1
                have e2 := (Sep.cells (l1 := RC R r vv mr (CO Try.c1 p r mm :: (l ++ [XO X z, CellsO Q #[.int .i64 n] 3]))) (l2 := []) (by simpa using h)).1
                exact ⟨by simp [World.cell?, e1], by simp [World.cell?, e2]⟩
              have hc3 := hcells _ _ _ _ hs3
              have hcall : Calls Try.prog 17 #[.pointer (some ⟨p, 0, none⟩), .func (.func 18) #[] #[.pointer (some ⟨Q, 0, none⟩), .pointer (some ⟨Q + 1, 0, none⟩)]] W2.drew _ :=
                (hl1' _ _ _ _ hs3).op (fun S hS => drop_p1 (.pointer (some ⟨Q, 0, none⟩)) (.pointer (some ⟨Q + 1, 0, none⟩)) (goes n lf) p r m S W2.drew hS (by omega) (fun x W' hb => goes_p n lf x Q (Q + 1) W' hn1 hn2 (cell_later hb hc3.1) (cell_later hb hc3.2)))
              have HCC := Lib.hid hcells
              have HAD := Lib.hid (bl_tr HA2.out hD)
              clear hl1' hcells hs3 hD
              refine (wpIn_wide (n := 11)).1 ?_
              refine ordS_begin (S := (fun w' : World => w'.cell? ⟨Q, 0, none⟩ = some (.int .i64 n) ∧ w'.cell? ⟨Q + 1, 0, none⟩ = some (.int .i64 lf))) (by kernel_rfl) hc3 (fun hH => ?_)
              refine' ordS_take (i := 0) (oi := { dst := some 185, op := Op.move (Operand.tmp 5), type := 23, pos := _, after := #[], guard := none }) (v := _) rfl (by kernel_rfl) (by kernel_rfl) (by kernel_rfl) (by kernel_rfl) (fun _ _ _ h => h) (by assumption) (Or.inl ⟨by rfl, ?hy1⟩) (fun _ => rfl) ?rest1
              case hy1 => (intro w hSw; (try dsimp only at hSw); go_simp; try with_reducible rfl)
              try simp only [Act.put, List.setIfInBounds_toArray, List.set_cons_zero, List.set_cons_succ]
              refine' ordS_take (i := 1) (oi := { dst := some 186, op := Op.makeFunc (Fn.func 18) #[] #[Operand.tmp 17, Operand.tmp 18], type := 43, pos := _, after := #[], guard := none }) (v := _) rfl (by kernel_rfl) (by kernel_rfl) (by kernel_rfl) (by kernel_rfl) (fun _ _ _ h => h) (by assumption) (Or.inl ⟨by rfl, ?hy2⟩) (fun _ => rfl) ?rest2
              case hy2 => (intro w hSw; (try dsimp only at hSw); go_simp; try with_reducible rfl)
              try simp only [Act.put, List.setIfInBounds_toArray, List.set_cons_zero, List.set_cons_succ]
              refine' ordS_take (i := 3) (oi := { dst := some 188, op := Op.move (Operand.tmp 7), type := 29, pos := _, after := #[], guard := none }) (v := _) rfl (by kernel_rfl) (by kernel_rfl) (by kernel_rfl) (by kernel_rfl) (fun _ _ _ h => h) (by assumption) (Or.inl ⟨by rfl, ?hy3⟩) (fun _ => rfl) ?rest3
              case hy3 => (intro w hSw; (try dsimp only at hSw); go_simp; try with_reducible rfl)
              try simp only [Act.put, List.setIfInBounds_toArray, List.set_cons_zero, List.set_cons_succ]
              refine' ordS_take (i := 4) (oi := { dst := some 189, op := Op.load 3 (Operand.tmp 17), type := 3, pos := _, after := #[], guard := none }) (v := _) rfl (by kernel_rfl) (by kernel_rfl) (by kernel_rfl) (by kernel_rfl) (fun _ _ _ h => h) (by assumption) (Or.inl ⟨by rfl, ?hy4⟩) (fun _ => rfl) ?rest4
              case hy4 => (intro w hSw; (try dsimp only at hSw); go_simp; try with_reducible rfl)
              try simp only [Act.put, List.setIfInBounds_toArray, List.set_cons_zero, List.set_cons_succ]
              refine' ordS_take (i := 5) (oi := { dst := some 190, op := Op.load 3 (Operand.tmp 18), type := 3, pos := _, after := #[], guard := none }) (v := _) rfl (by kernel_rfl) (by kernel_rfl) (by kernel_rfl) (by kernel_rfl) (fun _ _ _ h => h) (by assumption) (Or.inl ⟨by rfl, ?hy5⟩) (fun _ => rfl) ?rest5
              case hy5 => (intro w hSw; (try dsimp only at hSw); go_simp; try with_reducible rfl)
              try simp only [Act.put, List.setIfInBounds_toArray, List.set_cons_zero, List.set_cons_succ]
              refine ordS_one (i := 2) (o := { dst := some 187, op := Op.call { callee := Callee.value (Operand.func 17), args := #[Operand.tmp 185, Operand.tmp 186], argTypes := #[23, 43] }, type := 3, pos := _, after := #[{ on := 0, ground := Ground.data }, { on := 1, ground := Ground.data }], guard := none }) (by kernel_rfl) rfl (by rfl) (fun K hK => ?_)
              go_simp
              refine ⟨trivial, ?_⟩
              refine callsIn_wide.2 (hcall.mono ?_)
              rintro e W3 ⟨rfl, hs3, hb3⟩
              have hs3' : Sep W3 w.heap.size (RC R r v m (CO Try.c1 p r (dropM (goes n lf) m) :: (l ++ [XO X z, CellsO Q #[.int .i64 n] 3, CellsO (Q + 1) #[.int .i64 lf] 3]))) := hs3
              have HA3 := Lib.hid (HAD.out.trans hb3)
              refine hK _ _ (HCC.out _ _ _ _ hs3') ?_
              clear hK K hH hc3 hcall hb3
              try simp only [Act.put, List.setIfInBounds_toArray, List.set_cons_zero, List.set_cons_succ]
              have hcall := rdrop_any n lf W3 hs3' (by omega) hn1 hn2
              clear hs3 hs3'
              refine ordS_one (i := 6) (o := { dst := some 191, op := Op.call { callee := Callee.value (Operand.func 19), args := #[Operand.tmp 188, Operand.tmp 189, Operand.tmp 190], argTypes := #[29, 3, 3] }, type := 3, pos := _, after := #[{ on := 3, ground := Ground.data }, { on := 4, ground := Ground.data }, { on := 5, ground := Ground.data }, { on := 2, ground := Ground.chain }], guard := none }) (by kernel_rfl) rfl (by rfl) (fun K hK => ?_)
              go_simp
              refine ⟨trivial, ?_⟩
              refine callsIn_wide.2 (hcall.mono ?_)
              rintro e W4 ⟨rfl, ⟨v4, hs4⟩, hb4⟩
              have hc4 := HCC.out _ _ _ _ hs4
              refine hK _ _ hc4 ?_
              have HS4 := Lib.hid hs4
              have HA4 := Lib.hid (HA3.out.trans hb4)
              clear hK K hcall hs4 hb4
              try simp only [Act.put, List.setIfInBounds_toArray, List.set_cons_zero, List.set_cons_succ]
              have hne : (((m.length : Int) - ((dropM (goes n lf) m).length : Int)) != ((m.length : Int) - ((dropM (goes n lf) m).length : Int))) = false := by simp
              generalize (m.length : Int) - ((dropM (goes n lf) m).length : Int) = gd at *
              have hH := hc4
              refine' ordS_take (i := 7) (oi := { dst := some 192, op := Op.binOp BinOp.neq 3 (Operand.tmp 187) (Operand.tmp 191) 3, type := 4, pos := _, after := #[{ on := 2, ground := Ground.data }, { on := 6, ground := Ground.data }], guard := none }) (v := _) rfl (by kernel_rfl) (by kernel_rfl) (by kernel_rfl) (by kernel_rfl) (fun _ _ _ h => h) (by assumption) (Or.inl ⟨by rfl, ?hy6⟩) (fun _ => rfl) ?rest6
              case hy6 => (intro w hSw; (try dsimp only at hSw); go_simp; try with_reducible rfl)
              try simp only [Act.put, List.setIfInBounds_toArray, List.set_cons_zero, List.set_cons_succ]
              refine ordS_done (by kernel_rfl) ?_
              clear hH hc4
              go_wp2
              go_meet
              case rel => exact ⟨rfl, _, v4, _, HM2, HS4, HA4⟩
            have b2 : (z.d == 2) = false := by simp [q2]
            have hcall := put_s1 z.k z.v (hl1' _ _ _ _ HSX.out) (by omega) H1.out.1
            have HM2 := Lib.hid (HM.out.put (k := z.k) (x := z.v) H1.out.1)
            clear q0 q1 q2 hl1'
            go_wp2_with fail
            refine hcall.mono ?_
            rintro e W1 ⟨rfl, hs1, hb1⟩
            have HA1 := Lib.hid (HAX.out.trans hb1)
            have hs1' : Sep W1 w.heap.size (RC R r v m (CO Try.c1 p r (putM r z.k z.v m) :: (l ++ [XO X z]))) := hs1
            have hcall := rput_any z.k z.v W1 hs1' HM.out H1.out.1 H1.out.2
            obtain ⟨y0, y1, y2⟩ := box3 (l1 := RC R r v m (CO Try.c1 p r (putM r z.k z.v m) :: l)) (l2 := []) hs1'
            have zy := blk_lt y0
            clear hs1 hs1' hb1 x0 x1 x2 zx
            go_wp2_with fail
            refine hcall.mono ?_
            rintro e W2 ⟨rfl, ⟨v2, hs2⟩, hb2⟩
            have HS2 := Lib.hid hs2
            have HA2 := Lib.hid (HA1.out.trans hb2)
            clear hs2 hb2 hcall y0 y1 y2 zy
            generalize goneK r z.k m = g1
            generalize fullB r z.k m = g2
            have hg1 : (g1 != g1) = false := by simp
            have hg2 : (g2 != g2) = false := by cases g2 <;> rfl
            go_wp2
            go_meet
            case rel => exact ⟨rfl, _, v2, _, HM2, HS2, HA2⟩
          case rest =>
            obtain ⟨rfl, m2, v2, l2, HM2, HS2, HA2⟩ := hcut
            obtain ⟨W2, hW2⟩ : ∃ W2, W2 = wc := ⟨_, rfl⟩
            subst hW2
            have hm16 := HM2.out.small H1.out.2
            have hD := bl_dr (bl0 W2)
            have hsd := HS2.out.below hD
            obtain ⟨ra, rcap, rfl, hrc, _⟩ := RC.row hsd
            obtain ⟨f0, f1, f2, f3⟩ := RC.cells hsd
            have hlen := len_s1 (l1 := [RO R r (.slice ra m2.length rcap), TO (.slice ra m2.length rcap) m2]) hsd
            have HSD := Lib.hid hsd
            have HAD := Lib.hid (bl_tr HA2.out hD)
            clear HM HSX HAX x0 x1 x2 zx hsd hD HS2 HA2 f0 f2 f3
            go_upto_region 30 with fail
            refine (wpIn_wide (n := 11)).1 ?_
            refine ordS_begin (S := (fun w' : World => w'.cell? ⟨R, 1, none⟩ = some (.slice ra m2.length rcap))) (by kernel_rfl) f1 (fun hH => ?_)
            refine' ordS_take (i := 0) (oi := { dst := some 193, op := Op.move (Operand.tmp 5), type := 23, pos := _, after := #[], guard := none }) (v := _) rfl (by kernel_rfl) (by kernel_rfl) (by kernel_rfl) (by kernel_rfl) (fun _ _ _ h => h) (by assumption) (Or.inl ⟨by rfl, ?hy7⟩) (fun _ => rfl) ?rest7
            case hy7 => (intro w hSw; (try dsimp only at hSw); go_simp; try with_reducible rfl)
            try simp only [Act.put, List.setIfInBounds_toArray, List.set_cons_zero, List.set_cons_succ]
            refine' ordS_take (i := 2) (oi := { dst := some 195, op := Op.move (Operand.tmp 7), type := 29, pos := _, after := #[], guard := none }) (v := _) rfl (by kernel_rfl) (by kernel_rfl) (by kernel_rfl) (by kernel_rfl) (fun _ _ _ h => h) (by assumption) (Or.inl ⟨by rfl, ?hy8⟩) (fun _ => rfl) ?rest8
            case hy8 => (intro w hSw; (try dsimp only at hSw); go_simp; try with_reducible rfl)
            try simp only [Act.put, List.setIfInBounds_toArray, List.set_cons_zero, List.set_cons_succ]
            refine' ordS_take (i := 3) (oi := { dst := some 196, op := Op.nilCheck (Operand.tmp 195), type := 0, pos := _, after := #[{ on := 2, ground := Ground.data }], guard := none }) (v := _) rfl (by kernel_rfl) (by kernel_rfl) (by kernel_rfl) (by kernel_rfl) (fun _ _ _ h => h) (by assumption) (Or.inl ⟨by rfl, ?hy9⟩) (fun _ => rfl) ?rest9
            case hy9 => (intro w hSw; (try dsimp only at hSw); go_simp; try with_reducible rfl)
            try simp only [Act.put, List.setIfInBounds_toArray, List.set_cons_zero, List.set_cons_succ]
            refine' ordS_take (i := 4) (oi := { dst := some 197, op := Op.fieldAddr 32 (Operand.tmp 196) 1, type := 0, pos := _, after := #[{ on := 3, ground := Ground.data }], guard := none }) (v := _) rfl (by kernel_rfl) (by kernel_rfl) (by kernel_rfl) (by kernel_rfl) (fun _ _ _ h => h) (by assumption) (Or.inl ⟨by rfl, ?hy10⟩) (fun _ => rfl) ?rest10
            case hy10 => (intro w hSw; (try dsimp only at hSw); go_simp; try with_reducible rfl)
            try simp only [Act.put, List.setIfInBounds_toArray, List.set_cons_zero, List.set_cons_succ]
            refine' ordS_take (i := 5) (oi := { dst := some 198, op := Op.load 30 (Operand.tmp 197), type := 30, pos := _, after := #[{ on := 4, ground := Ground.data }], guard := none }) (v := _) rfl (by kernel_rfl) (by kernel_rfl) (by kernel_rfl) (by kernel_rfl) (fun _ _ _ h => h) (by assumption) (Or.inl ⟨by rfl, ?hy11⟩) (fun _ => rfl) ?rest11
            case hy11 => (intro w hSw; (try dsimp only at hSw); go_simp; try with_reducible rfl)
            try simp only [Act.put, List.setIfInBounds_toArray, List.set_cons_zero, List.set_cons_succ]
            refine' ordS_take (i := 6) (oi := { dst := some 199, op := Op.call { callee := Callee.builtin Builtin.len, args := #[Operand.tmp 198], argTypes := #[30] }, type := 3, pos := _, after := #[{ on := 5, ground := Ground.data }], guard := none }) (v := _) rfl (by kernel_rfl) (by kernel_rfl) (by kernel_rfl) (by kernel_rfl) (fun _ _ _ h => h) (by assumption) (Or.inl ⟨by rfl, ?hy12⟩) (fun _ => rfl) ?rest12
            case hy12 => (intro w hSw; (try dsimp only at hSw); go_simp; try with_reducible rfl)
            try simp only [Act.put, List.setIfInBounds_toArray, List.set_cons_zero, List.set_cons_succ]
            refine ordS_one (i := 1) (o := { dst := some 194, op := Op.call { callee := Callee.value (Operand.func 11), args := #[Operand.tmp 193], argTypes := #[23] }, type := 3, pos := _, after := #[{ on := 0, ground := Ground.data }], guard := none }) (by kernel_rfl) rfl (by rfl) (fun K hK => ?_)
            go_simp
            refine ⟨trivial, ?_⟩
            refine callsIn_wide.2 (hlen.mono ?_)
            rintro e W3 ⟨rfl, rfl⟩
            refine hK _ _ f1 ?_
            clear hK K hlen
            try simp only [Act.put, List.setIfInBounds_toArray, List.set_cons_zero, List.set_cons_succ]
            have hcall := keys_k1 (l1 := [RO R r (.slice ra m2.length rcap), TO (.slice ra m2.length rcap) m2]) HSD.out (by omega)
            have hnn : ((m2.length : Int) != (m2.length : Int)) = false := by simp
            refine' ordS_take (i := 7) (oi := { dst := some 200, op := Op.binOp BinOp.neq 3 (Operand.tmp 194) (Operand.tmp 199) 3, type := 4, pos := _, after := #[{ on := 1, ground := Ground.data }, { on := 6, ground := Ground.data }], guard := none }) (v := _) rfl (by kernel_rfl) (by kernel_rfl) (by kernel_rfl) (by kernel_rfl) (fun _ _ _ h => h) (by assumption) (Or.inl ⟨by rfl, ?hy13⟩) (fun _ => rfl) ?rest13
            case hy13 => (intro w hSw; (try dsimp only at hSw); go_simp; try with_reducible rfl)
            try simp only [Act.put, List.setIfInBounds_toArray, List.set_cons_zero, List.set_cons_succ]
            refine' ordS_take (i := 8) (oi := { dst := some 201, op := Op.move (Operand.tmp 200), type := 4, pos := _, after := #[{ on := 7, ground := Ground.data }, { on := 1, ground := Ground.chain }], guard := none }) (v := _) rfl (by kernel_rfl) (by kernel_rfl) (by kernel_rfl) (by kernel_rfl) (fun _ _ _ h => h) (by assumption) (Or.inl ⟨by rfl, ?hy14⟩) (fun _ => rfl) ?rest14
            case hy14 => (intro w hSw; (try dsimp only at hSw); go_simp; try with_reducible rfl)
            try simp only [Act.put, List.setIfInBounds_toArray, List.set_cons_zero, List.set_cons_succ]
            refine' ordS_take (i := 9) (oi := { dst := some 202, op := Op.move (Operand.tmp 5), type := 23, pos := _, after := #[{ on := 8, ground := Ground.guard }], guard := some (8, false) }) (v := _) rfl (by kernel_rfl) (by kernel_rfl) (by kernel_rfl) (by kernel_rfl) (fun _ _ _ h => h) (by assumption) (Or.inl ⟨by rfl, ?hy15⟩) (fun _ => rfl) ?rest15
            case hy15 => (intro w hSw; (try dsimp only at hSw); go_simp; try with_reducible rfl)
            try simp only [Act.put, List.setIfInBounds_toArray, List.set_cons_zero, List.set_cons_succ]
            refine' ordS_take (i := 11) (oi := { dst := some 204, op := Op.move (Operand.tmp 7), type := 29, pos := _, after := #[{ on := 8, ground := Ground.guard }], guard := some (8, false) }) (v := _) rfl (by kernel_rfl) (by kernel_rfl) (by kernel_rfl) (by kernel_rfl) (fun _ _ _ h => h) (by assumption) (Or.inl ⟨by rfl, ?hy16⟩) (fun _ => rfl) ?rest16
            case hy16 => (intro w hSw; (try dsimp only at hSw); go_simp; try with_reducible rfl)
            try simp only [Act.put, List.setIfInBounds_toArray, List.set_cons_zero, List.set_cons_succ]
            refine ordS_one (i := 10) (o := { dst := some 203, op := Op.call { callee := Callee.value (Operand.func 23), args := #[Operand.tmp 202], argTypes := #[23] }, type := 47, pos := _, after := #[{ on := 9, ground := Ground.data }, { on := 8, ground := Ground.chain }, { on := 8, ground := Ground.guard }], guard := some (8, false) }) (by kernel_rfl) rfl (by rfl) (fun K hK => ?_)
            go_simp
            refine ⟨trivial, ?_⟩
            refine callsIn_wide.2 (hcall.mono ?_)
            rintro e W4 ⟨gk, rfl, hs4, hb4⟩
            have hs4' : Sep W4 w.heap.size (RC R r (.slice ra m2.length rcap) m2 (CO Try.c1 p r m2 :: (l2 ++ [KO gk m2]))) := hs4
            have HA4 := Lib.hid (bl_tr HAD.out hb4)
            have HS4 := Lib.hid hs4'
            have g1 := cell_later hb4 f1
            refine hK _ _ g1 ?_
            clear hK K hH f1 hcall hs4 hb4 hs4'
            try simp only [Act.put, List.setIfInBounds_toArray, List.set_cons_zero, List.set_cons_succ]
            have hcall := rkeys_any W4 HS4.out (by omega)
            refine ordS_one (i := 12) (o := { dst := some 205, op := Op.call { callee := Callee.value (Operand.func 24), args := #[Operand.tmp 204], argTypes := #[29] }, type := 47, pos := _, after := #[{ on := 11, ground := Ground.data }, { on := 10, ground := Ground.chain }, { on := 8, ground := Ground.guard }], guard := some (8, false) }) (by kernel_rfl) rfl (by rfl) (fun K hK => ?_)
            go_simp
            refine ⟨trivial, ?_⟩
            refine callsIn_wide.2 (hcall.mono ?_)
            rintro e W5 ⟨kv, rfl, ht⟩
            obtain ⟨hs5, hb5⟩ := HS4.out.made ht
            have HA5 := Lib.hid (bl_tr HA4.out hb5)
            have hs5' : Sep W5 w.heap.size (RC R r (.slice ra m2.length rcap) m2 (CO Try.c1 p r m2 :: (l2 ++ [KO gk m2, RowO 3 1 kv m2.length (cellsI (m2.map Prod.fst))]))) := by simpa using hs5
            have HS5 := Lib.hid hs5'
            have g2 := cell_later hb5 g1
            refine hK _ _ g2 ?_
            clear hK K g1 hcall hs5 ht hb5
            try simp only [Act.put, List.setIfInBounds_toArray, List.set_cons_zero, List.set_cons_succ]
            obtain ⟨ka, kc, rfl, _, _, hkr⟩ := Sep.rowv (l1 := RC R r (.slice ra m2.length rcap) m2 (CO Try.c1 p r m2 :: (l2 ++ [KO gk m2]))) (l2 := []) (n := m2.length) (is := m2.map Prod.fst) (by simpa using hs5')
            have hkk := KO.row (l1 := RC R r (.slice ra m2.length rcap) m2 (CO Try.c1 p r m2 :: l2)) (l2 := [RowO 3 1 (.slice ka m2.length kc) m2.length (cellsI (m2.map Prod.fst))]) (g := gk) (m := m2) hs5'
            have hcall := ints_any (some ⟨gk, 0, none⟩) ka m2.length kc (m2.map Prod.fst) (m2.map Prod.fst) W5 (by rw [List.length_map]; omega) (by rw [List.length_map]; omega) hkk hkr
            rw [decide_eq_true rfl, List.length_map] at hcall
            clear hs5' hkr hkk
            refine ordS_one (i := 13) (o := { dst := some 206, op := Op.call { callee := Callee.value (Operand.func 22), args := #[Operand.tmp 203, Operand.tmp 205], argTypes := #[47, 47] }, type := 4, pos := _, after := #[{ on := 10, ground := Ground.data }, { on := 12, ground := Ground.data }, { on := 12, ground := Ground.chain }, { on := 8, ground := Ground.guard }], guard := some (8, false) }) (by kernel_rfl) rfl (by rfl) (fun K hK => ?_)
            go_simp
            refine ⟨trivial, ?_⟩
            refine callsIn_wide.2 (hcall.mono ?_)
            rintro e W6 ⟨rfl, hb6⟩
            have HA6 := Lib.hid (bl_tr HA5.out hb6)
            have HS6 := Lib.hid (HS5.out.below hb6)
            have hH := cell_later hb6 g2
            refine hK _ _ hH ?_
            clear hK K g2 hcall hb6
            try simp only [Act.put, List.setIfInBounds_toArray, List.set_cons_zero, List.set_cons_succ]
            refine' ordS_take (i := 14) (oi := { dst := some 207, op := Op.unOp UnOp.not 4 (Operand.tmp 206), type := 4, pos := _, after := #[{ on := 13, ground := Ground.data }, { on := 8, ground := Ground.guard }], guard := some (8, false) }) (v := _) rfl (by kernel_rfl) (by kernel_rfl) (by kernel_rfl) (by kernel_rfl) (fun _ _ _ h => h) (by assumption) (Or.inl ⟨by rfl, ?hy17⟩) (fun _ => rfl) ?rest17
            case hy17 => (intro w hSw; (try dsimp only at hSw); go_simp; try with_reducible rfl)
            try simp only [Act.put, List.setIfInBounds_toArray, List.set_cons_zero, List.set_cons_succ]
            refine' ordS_take (i := 15) (oi := { dst := some 208, op := Op.pick (Operand.tmp 201) (Operand.const (Value.bool true)) (Operand.tmp 207), type := 4, pos := _, after := #[{ on := 8, ground := Ground.data }, { on := 14, ground := Ground.data }], guard := none }) (v := _) rfl (by kernel_rfl) (by kernel_rfl) (by kernel_rfl) (by kernel_rfl) (fun _ _ _ h => h) (by assumption) (Or.inl ⟨by rfl, ?hy18⟩) (fun _ => rfl) ?rest18
            case hy18 => (intro w hSw; (try dsimp only at hSw); go_simp; try with_reducible rfl)
            try simp only [Act.put, List.setIfInBounds_toArray, List.set_cons_zero, List.set_cons_succ]
            refine ordS_done (by kernel_rfl) ?_
            clear hH
            go_wp2
            go_roundw
            case rel => exact ⟨k + 1, m2, _, _, by omega, by go_num, HM2, HS6, HA6⟩
            case measure => simp [intOf]; omega
        · obtain rfl : k = ls.length := by omega
          have hge : ¬ (ls.length : Int) < (ls.length : Int) := by omega
          have hA := HAr.out
          clear HM HSr HAr
          have HA := Lib.hid hA
          clear hA
          go_wp2_with fail
          refine (awake16 _).mono ?_
          rintro e w9 ⟨rfl, hb⟩
          have HZ := Lib.hid (bl_tr HA.out hb)
          clear hb HA
          go_wp2
          go_ret
          exact ⟨rfl, HZ.out⟩
  · clear hr
    by_cases hr1 : r < 1
    · go_enter Try.func3, Try.ntmps3
      go_wp2_with fail
      refine (new_n1 r h1 w).mono ?_
      rintro e w1 ⟨rfl, hA⟩
      clear h0 h1
      have HA := Lib.hid hA
      clear hA
      go_wp2_with fail
      refine (awake16 _).mono ?_
      rintro e w9 ⟨rfl, hb⟩
      have HZ := Lib.hid (bl_tr HA.out hb)
      clear hb HA
      go_wp2
      go_ret
      exact ⟨rfl, HZ.out⟩
    · have hr2 : (16 : Int) < r := by omega
      go_enter Try.func3, Try.ntmps3
      go_wp2_with fail
      refine (new_n1 r h1 w).mono ?_
      rintro e w1 ⟨rfl, hA⟩
      clear h0 h1
      have HA := Lib.hid hA
      clear hA
      go_wp2_with fail
      refine (awake16 _).mono ?_
      rintro e w9 ⟨rfl, hb⟩
      have HZ := Lib.hid (bl_tr HA.out hb)
      clear hb HA
      go_wp2
      go_ret
      exact ⟨rfl, HZ.out⟩
end Go.Proofs.Ytbmpgafndpdnbaa
