/- CacheLast: its walk. -/
import Derived.Test.YtbmpgafndpdnbaaEs
import Derived.Deep.CutBlock
namespace Go.Proofs.Ytbmpgafndpdnbaa
open Go.RowKit Go.Maps

/-- What the loop holds of the cache and of what was used. -/
structure LastI (r : Int) (ls : List AT) (k : Nat) (m : List IT) (us : List Int) : Prop where
  fit : Fit r m
  keys : m.map Prod.fst = recL r us
  vals : ∀ x ∈ m, x.2 = lastP x.1 (ls.take k)
  len : us.length ≤ k
theorem getM_mem {k : Int} {m : List IT} {x : IT} (h : x ∈ getM k m) : x ∈ m := by
  cases e : findI k m with
  | none => rw [get_none e] at h; exact h
  | some i =>
    unfold getM at h
    rw [e] at h
    unfold leadL at h
    rcases List.mem_cons.1 h with rfl | h
    · exact List.mem_of_getElem? (atI_get (findI_some e).1)
    · exact List.mem_of_mem_eraseIdx h
theorem LastI.got {r : Int} {ls : List AT} {k : Nat} {m : List IT} {us : List Int} {z : AT} (h : LastI r ls k m us) (hr : 1 ≤ r) (hz : ls[k]? = some z) (hd : z.d = 0) {i : Nat} (e : findI z.k m = some i) : LastI r ls (k + 1) (getM z.k m) (us ++ [z.k]) := by
  have hp := get_put (r := r) e
  refine ⟨h.fit.get hr, ?_, fun x hx => ?_, by rw [List.length_append, List.length_singleton]; have := h.len; omega⟩
  · rw [hp]; exact put_keys h.fit hr h.keys
  · rw [lastP_take hz, if_neg (by simp [isPut, hd])]
    exact h.vals x (getM_mem hx)
theorem LastI.same {r : Int} {ls : List AT} {k : Nat} {m : List IT} {us : List Int} {z : AT} (h : LastI r ls k m us) (hz : ls[k]? = some z) (hd : isPut z = false) : LastI r ls (k + 1) m us := by
  refine ⟨h.fit, h.keys, fun x hx => ?_, by have := h.len; omega⟩
  rw [lastP_take hz, if_neg (by simp [hd])]
  exact h.vals x hx
theorem LastI.put {r : Int} {ls : List AT} {k : Nat} {m : List IT} {us : List Int} {z : AT} (h : LastI r ls k m us) (hr : 1 ≤ r) (hz : ls[k]? = some z) (hd : isPut z = true) : LastI r ls (k + 1) (putM r z.k z.v m) (us ++ [z.k]) := by
  refine ⟨h.fit.put hr, put_keys h.fit hr h.keys, fun x hx => ?_, by rw [List.length_append, List.length_singleton]; have := h.len; omega⟩
  rw [put_but h.fit hr] at hx
  rw [lastP_take hz, hd, Bool.true_and]
  rcases List.mem_cons.1 hx with rfl | hx
  · simp
  · have hx2 := List.mem_filter.1 (List.mem_of_mem_take hx)
    have hne : ¬ z.k = x.1 := fun e => by have := hx2.2; simp at this; exact this e.symm
    rw [if_neg (by simp [hne])]
    exact h.vals x hx2.1

set_option maxRecDepth 100000 in
set_option maxHeartbeats 16000000 in
theorem clast_walk (a : Option Addr) (ca : Nat) (ls : List AT) (r : Int) (w : World) (hr : RowA w a ls) (hca : ls.length ≤ ca) :
    Calls Try.prog 4 #[.int .i64 r, .slice a ls.length ca] w fun e w' => e = .returned (.bool true) ∧ Below w.heap.size w w' := by
  have h0 : Sep w w.heap.size [] := Sep.nil (Nat.le_refl _)
  by_cases h1 : 1 ≤ r ∧ r ≤ 16
  · by_cases hl : 150 < ls.length
    · have hlI : (150 : Int) < (ls.length : Int) := by omega
      clear hr
      go_enter Try.func4, Try.ntmps4
      go_wp2_with fail
      refine (new_s1 h0 h1).mono ?_
      rintro e w1 ⟨p, rfl, hs1, hA⟩
      clear hs1 h0 h1
      have HA := Lib.hid hA
      clear hA
      go_wp2_with fail
      refine (awake16 _).mono ?_
      rintro e w9 ⟨rfl, hb⟩
      have HZ := Lib.hid (bl_tr HA.out hb)
      clear hb HA
      go_wp2
      go_ret
      exact ⟨rfl, HZ.out⟩
    · have hl1 : (ls.length : Int) ≤ 150 := by omega
      have hl2 : ls.length ≤ 150 := by omega
      have hl3 : decide ((150 : Int) < (ls.length : Int)) = false := decide_eq_false (by omega)
      have hcaI : (ls.length : Int) ≤ (ca : Int) := by omega
      have H1 := Lib.hid h1
      have HR := Lib.hid hr
      clear hr hl
      go_enter Try.func4, Try.ntmps4
      go_wp2_with fail
      refine (new_s1 h0 h1).mono ?_
      rintro e w1 ⟨p, rfl, hs1, hA⟩
      have HA := Lib.hid hA
      have HS := Lib.hid (show Sep w1 w.heap.size (CO Try.c1 p r [] :: RowO 3 1 (.slice none 0 0) 0 (cellsI []) :: []) from hs1.nilrow)
      clear hs1 h0 h1 hA
      go_wp2_with fail
      go_loopw [7, 8] (fun s i wr => ∃ (k : Nat) (m : List IT) (us : List Int) (l : List Own), k ≤ ls.length ∧ i = .int .i64 k ∧ Hid (LastI r ls k m us) ∧ Hid (Sep wr w.heap.size (CO Try.c1 p r m :: RowO 3 1 s us.length (cellsI us) :: l)) ∧ Hid (Below w.heap.size w wr)) (fun _ i _ => ls.length - (intOf i).toNat)
      case atStart => exact ⟨0, [], [], [], Nat.zero_le _, rfl, Lib.hid ⟨Fit.nil H1.out.1, by rw [recL_nil]; rfl, (fun x hx => by cases hx), Nat.zero_le _⟩, HS, HA⟩
      case round =>
        obtain ⟨k, m, us, l, hk, rfl, HL, HSr, HAr⟩ := hrel
        have hk0 : (0 : Int) ≤ (k : Int) := by omega
        have hm16 := HL.out.fit.small H1.out.2
        have hus := HL.out.len
        by_cases hlt : k < ls.length
        · have hlt2 : (k : Int) < (ls.length : Int) := by omega
          obtain ⟨z, hz⟩ : ∃ z, ls[k]? = some z := ⟨_, List.getElem?_eq_getElem hlt⟩
          obtain ⟨b, o, rfl, c0, c1, c2⟩ := (HR.out.below HAr.out).at hz
          have zc := blk_lt c1
          have HZ := Lib.hid hz
          obtain ⟨ra, rc, rfl, hrl, hrc, _⟩ := Sep.rowv (l1 := [CO Try.c1 p r m]) HSr.out
          clear hz hrl hrc
          go_upto_block 2 with fail
          go_cut [7] from 49 to 100 (fun s wx => ∃ (m2 : List IT) (us2 : List Int) (l2 : List Own), Hid (LastI r ls (k + 1) m2 us2) ∧ Hid (Sep wx w.heap.size (CO Try.c1 p r m2 :: RowO 3 1 s us2.length (cellsI us2) :: l2)) ∧ Hid (Below w.heap.size w wx))
          case first =>
            by_cases q0 : z.d = 0
            · have b0 : (z.d == 0) = true := by simp [q0]
              have hcall := get_s1 (l1 := []) z.k HSr.out (by omega)
              cases hf : findI z.k m with
              | none =>
                have HL2 := Lib.hid (HL.out.same HZ.out (by simp [isPut, q0]))
                rw [hf, get_none hf] at hcall
                generalize peekV z.k m = g1 at hcall
                clear hf q0 HL c2
                go_wp2_with fail
                refine hcall.mono ?_
                rintro e W2 ⟨rfl, hs2, hb2⟩
                have HS2 := Lib.hid hs2
                have HA2 := Lib.hid (HAr.out.trans hb2)
                clear hs2 hb2 hcall c0 c1
                go_wp2
                go_meet
                case rel => exact ⟨m, us, l, HL2, HS2, HA2⟩
              | some i =>
                have HL2 := Lib.hid (HL.out.got H1.out.1 HZ.out q0 hf)
                rw [hf] at hcall
                generalize peekV z.k m = g1 at hcall
                generalize getM z.k m = m2 at *
                clear hf q0 HL c2
                go_wp2_with fail
                refine hcall.mono ?_
                rintro e W2 ⟨rfl, hs2, hb2⟩
                have HS2 := Lib.hid hs2
                have HA2 := Lib.hid (HAr.out.trans hb2)
                clear hs2 hb2 hcall c0 c1
                -- the world W2: HS2 : Sep of the cache m2, the row s, l; HA2; HL2 (us ++ [z.k])
                obtain ⟨b2, o2, e2, _, d1, _⟩ := (HR.out.below HA2.out).at HZ.out
                injection e2 with e3; injection e3 with e4 e5 _; subst e4; subst e5
                have zd := blk_lt d1
                have hS := HS2.out
                go_wp2_with (at_builtin; refine wpList_append_intv (W := W2) rfl _ _ rfl z.k (by rfl) (l1 := [CO Try.c1 p r m2]) (l2 := l) (n := us.length) (is := us) (B := w.heap.size) hS (by omega) (by rfl) W2.heap.size (by rfl) (by rfl) ?_)
                intro v' W3 h3 hb3
                have H3 := Lib.hid (show Sep W3 w.heap.size (CO Try.c1 p r m2 :: RowO 3 1 v' (us ++ [z.k]).length (cellsI (us ++ [z.k])) :: l) by rw [List.length_append]; exact h3)
                have HB3 := Lib.hid (HA2.out.trans hb3)
                clear h3 hb3 hS d1 zd
                go_wp2
                go_meet
                case rel => exact ⟨m2, us ++ [z.k], l, HL2, H3, HB3⟩
            have b0 : (z.d == 0) = false := by simp [q0]
            by_cases q1 : z.d = 1 ∨ z.d = 2
            · have HL2 := Lib.hid (HL.out.same HZ.out (by rcases q1 with e | e <;> simp [isPut, e]))
              have hcall := peek_s1 (l1 := []) z.k HSr.out (by omega)
              generalize peekV z.k m = g1 at hcall
              generalize (findI z.k m).isSome = g2 at hcall
              clear HL c2
              rcases q1 with q1 | q1
              · have b1 : (z.d == 1) = true := by simp [q1]
                clear q0 q1
                go_wp2_with fail
                refine hcall.mono ?_
                rintro e W2 ⟨rfl, hs2, hb2⟩
                have HS2 := Lib.hid hs2
                have HA2 := Lib.hid (bl_tr HAr.out hb2)
                clear hs2 hb2 hcall c0 c1
                go_wp2
                go_meet
                case rel => exact ⟨m, us, l, HL2, HS2, HA2⟩
              · have b1 : (z.d == 1) = false := by simp [q1]
                have b2 : (z.d == 2) = true := by simp [q1]
                clear q0 q1
                go_wp2_with fail
                refine hcall.mono ?_
                rintro e W2 ⟨rfl, hs2, hb2⟩
                have HS2 := Lib.hid hs2
                have HA2 := Lib.hid (bl_tr HAr.out hb2)
                clear hs2 hb2 hcall c0 c1
                go_wp2
                go_meet
                case rel => exact ⟨m, us, l, HL2, HS2, HA2⟩
            have b1 : (z.d == 1) = false := by simp; exact fun e => q1 (.inl e)
            have b2 : (z.d == 2) = false := by simp; exact fun e => q1 (.inr e)
            have HL2 := Lib.hid (HL.out.put H1.out.1 HZ.out (by simp only [isPut]; exact decide_eq_true ⟨q0, fun e => q1 (.inl e), fun e => q1 (.inr e)⟩))
            have hD := bl_dr (bl0 wr)
            have hcall := put_s1 (l1 := []) z.k z.v (HSr.out.below hD) (by omega) H1.out.1
            generalize goneK r z.k m = g1 at hcall
            generalize fullB r z.k m = g2 at hcall
            generalize putM r z.k z.v m = m2 at *
            clear HL q0 q1 hm16
            go_upto_region 9 with fail
            refine (wpIn_wide (n := 11)).1 ?_
            refine ordS_begin (S := (fun w' : World => w'.cell? ⟨b, o + k * 3 + 1, none⟩ = some (.int .i64 z.k) ∧ w'.cell? ⟨b, o + k * 3 + 2, none⟩ = some (.int .i64 z.v))) (by kernel_rfl) ⟨cell_later hD c1, cell_later hD c2⟩ (fun hH => ?_)
            refine' ordS_take (i := 0) (oi := { dst := some 50, op := Op.move (Operand.tmp 5), type := 23, pos := _, after := #[], guard := none }) (v := _) rfl (by kernel_rfl) (by kernel_rfl) (by kernel_rfl) (by kernel_rfl) (fun _ _ _ h => h) (by assumption) (Or.inl ⟨by rfl, ?hy1⟩) (fun _ => rfl) ?rest1
            case hy1 => (intro w hSw; (try dsimp only at hSw); go_simp; try with_reducible rfl)
            try simp only [Act.put, List.setIfInBounds_toArray, List.set_cons_zero, List.set_cons_succ]
            refine' ordS_take (i := 1) (oi := { dst := some 51, op := Op.move (Operand.tmp 1), type := 22, pos := _, after := #[], guard := none }) (v := _) rfl (by kernel_rfl) (by kernel_rfl) (by kernel_rfl) (by kernel_rfl) (fun _ _ _ h => h) (by assumption) (Or.inl ⟨by rfl, ?hy2⟩) (fun _ => rfl) ?rest2
            case hy2 => (intro w hSw; (try dsimp only at hSw); go_simp; try with_reducible rfl)
            try simp only [Act.put, List.setIfInBounds_toArray, List.set_cons_zero, List.set_cons_succ]
            refine' ordS_take (i := 2) (oi := { dst := some 52, op := Op.move (Operand.tmp 8), type := 3, pos := _, after := #[], guard := none }) (v := _) rfl (by kernel_rfl) (by kernel_rfl) (by kernel_rfl) (by kernel_rfl) (fun _ _ _ h => h) (by assumption) (Or.inl ⟨by rfl, ?hy3⟩) (fun _ => rfl) ?rest3
            case hy3 => (intro w hSw; (try dsimp only at hSw); go_simp; try with_reducible rfl)
            try simp only [Act.put, List.setIfInBounds_toArray, List.set_cons_zero, List.set_cons_succ]
            refine' ordS_take (i := 3) (oi := { dst := some 53, op := Op.indexAddr 22 (Operand.tmp 51) (Operand.tmp 52), type := 0, pos := _, after := #[{ on := 1, ground := Ground.data }, { on := 2, ground := Ground.data }], guard := none }) (v := _) rfl (by kernel_rfl) (by kernel_rfl) (by kernel_rfl) (by kernel_rfl) (fun _ _ _ h => h) (by assumption) (Or.inl ⟨by rfl, ?hy4⟩) (fun _ => rfl) ?rest4
            case hy4 => (intro w hSw; (try dsimp only at hSw); go_simp; try with_reducible rfl)
            try simp only [Act.put, List.setIfInBounds_toArray, List.set_cons_zero, List.set_cons_succ]
            refine' ordS_take (i := 4) (oi := { dst := some 54, op := Op.fieldAddr 34 (Operand.tmp 53) 1, type := 0, pos := _, after := #[{ on := 3, ground := Ground.data }], guard := none }) (v := _) rfl (by kernel_rfl) (by kernel_rfl) (by kernel_rfl) (by kernel_rfl) (fun _ _ _ h => h) (by assumption) (Or.inl ⟨by rfl, ?hy5⟩) (fun _ => rfl) ?rest5
            case hy5 => (intro w hSw; (try dsimp only at hSw); go_simp; try with_reducible rfl)
            try simp only [Act.put, List.setIfInBounds_toArray, List.set_cons_zero, List.set_cons_succ]
            refine' ordS_take (i := 5) (oi := { dst := some 55, op := Op.load 3 (Operand.tmp 54), type := 3, pos := _, after := #[{ on := 4, ground := Ground.data }], guard := none }) (v := _) rfl (by kernel_rfl) (by kernel_rfl) (by kernel_rfl) (by kernel_rfl) (fun _ _ _ h => h) (by assumption) (Or.inl ⟨by rfl, ?hy6⟩) (fun _ => rfl) ?rest6
            case hy6 => (intro w hSw; (try dsimp only at hSw); go_simp; try with_reducible rfl)
            try simp only [Act.put, List.setIfInBounds_toArray, List.set_cons_zero, List.set_cons_succ]
            refine' ordS_take (i := 6) (oi := { dst := some 56, op := Op.move (Operand.tmp 1), type := 22, pos := _, after := #[], guard := none }) (v := _) rfl (by kernel_rfl) (by kernel_rfl) (by kernel_rfl) (by kernel_rfl) (fun _ _ _ h => h) (by assumption) (Or.inl ⟨by rfl, ?hy7⟩) (fun _ => rfl) ?rest7
            case hy7 => (intro w hSw; (try dsimp only at hSw); go_simp; try with_reducible rfl)
            try simp only [Act.put, List.setIfInBounds_toArray, List.set_cons_zero, List.set_cons_succ]
            refine' ordS_take (i := 7) (oi := { dst := some 57, op := Op.move (Operand.tmp 8), type := 3, pos := _, after := #[], guard := none }) (v := _) rfl (by kernel_rfl) (by kernel_rfl) (by kernel_rfl) (by kernel_rfl) (fun _ _ _ h => h) (by assumption) (Or.inl ⟨by rfl, ?hy8⟩) (fun _ => rfl) ?rest8
            case hy8 => (intro w hSw; (try dsimp only at hSw); go_simp; try with_reducible rfl)
            try simp only [Act.put, List.setIfInBounds_toArray, List.set_cons_zero, List.set_cons_succ]
            refine' ordS_take (i := 8) (oi := { dst := some 58, op := Op.indexAddr 22 (Operand.tmp 56) (Operand.tmp 57), type := 0, pos := _, after := #[{ on := 6, ground := Ground.data }, { on := 7, ground := Ground.data }], guard := none }) (v := _) rfl (by kernel_rfl) (by kernel_rfl) (by kernel_rfl) (by kernel_rfl) (fun _ _ _ h => h) (by assumption) (Or.inl ⟨by rfl, ?hy9⟩) (fun _ => rfl) ?rest9
            case hy9 => (intro w hSw; (try dsimp only at hSw); go_simp; try with_reducible rfl)
            try simp only [Act.put, List.setIfInBounds_toArray, List.set_cons_zero, List.set_cons_succ]
            refine' ordS_take (i := 9) (oi := { dst := some 59, op := Op.fieldAddr 34 (Operand.tmp 58) 2, type := 0, pos := _, after := #[{ on := 8, ground := Ground.data }], guard := none }) (v := _) rfl (by kernel_rfl) (by kernel_rfl) (by kernel_rfl) (by kernel_rfl) (fun _ _ _ h => h) (by assumption) (Or.inl ⟨by rfl, ?hy10⟩) (fun _ => rfl) ?rest10
            case hy10 => (intro w hSw; (try dsimp only at hSw); go_simp; try with_reducible rfl)
            try simp only [Act.put, List.setIfInBounds_toArray, List.set_cons_zero, List.set_cons_succ]
            refine' ordS_take (i := 10) (oi := { dst := some 60, op := Op.load 3 (Operand.tmp 59), type := 3, pos := _, after := #[{ on := 9, ground := Ground.data }], guard := none }) (v := _) rfl (by kernel_rfl) (by kernel_rfl) (by kernel_rfl) (by kernel_rfl) (fun _ _ _ h => h) (by assumption) (Or.inl ⟨by rfl, ?hy11⟩) (fun _ => rfl) ?rest11
            case hy11 => (intro w hSw; (try dsimp only at hSw); go_simp; try with_reducible rfl)
            try simp only [Act.put, List.setIfInBounds_toArray, List.set_cons_zero, List.set_cons_succ]
            refine ordS_one (i := 11) (o := { dst := some 61, op := Op.call { callee := Callee.value (Operand.func 20), args := #[Operand.tmp 50, Operand.tmp 55, Operand.tmp 60], argTypes := #[23, 3, 3] }, type := 35, pos := _, after := #[{ on := 0, ground := Ground.data }, { on := 5, ground := Ground.data }, { on := 10, ground := Ground.data }], guard := none }) (by kernel_rfl) rfl (by rfl) (fun K hK => ?_)
            go_simp
            refine ⟨trivial, ?_⟩
            refine callsIn_wide.2 (hcall.mono ?_)
            rintro e W2 ⟨rfl, hs2, hb2⟩
            have hA2 := (bl_tr HAr.out hD).trans hb2
            obtain ⟨b3, o3, e2, _, d1, d2⟩ := (HR.out.below hA2).at HZ.out
            injection e2 with e3; injection e3 with e4 e5 _; subst e4; subst e5
            refine hK _ _ ⟨d1, d2⟩ ?_
            have HS2 := Lib.hid hs2
            have HA2 := Lib.hid hA2
            clear hK K hH c0 c1 c2 hb2 hD hcall d1 d2 hs2 hA2
            try simp only [Act.put, List.setIfInBounds_toArray, List.set_cons_zero, List.set_cons_succ]
            refine ordS_done (by kernel_rfl) ?_
            -- the world W2: HS2 : Sep of the cache m2, the row s, l; HA2; HL2 (us ++ [z.k])
            obtain ⟨b2, o2, e2, _, d1, _⟩ := (HR.out.below HA2.out).at HZ.out
            injection e2 with e3; injection e3 with e4 e5 _; subst e4; subst e5
            have zd := blk_lt d1
            have hS := HS2.out
            go_wp2_with (at_builtin; refine wpList_append_intv (W := W2) rfl _ _ rfl z.k (by rfl) (l1 := [CO Try.c1 p r m2]) (l2 := l) (n := us.length) (is := us) (B := w.heap.size) hS (by omega) (by rfl) W2.heap.size (by rfl) (by rfl) ?_)
            intro v' W3 h3 hb3
            have H3 := Lib.hid (show Sep W3 w.heap.size (CO Try.c1 p r m2 :: RowO 3 1 v' (us ++ [z.k]).length (cellsI (us ++ [z.k])) :: l) by rw [List.length_append]; exact h3)
            have HB3 := Lib.hid (HA2.out.trans hb3)
            clear h3 hb3 hS d1 zd
            go_wp2
            go_meet
            case rel => exact ⟨m2, us ++ [z.k], l, HL2, H3, HB3⟩
          case rest =>
            obtain ⟨m2, us2, l2, HL2, HS2, HA2⟩ := hcut
            obtain ⟨W2, hW2⟩ : ∃ W2, W2 = wc := ⟨_, rfl⟩
            subst hW2
            clear HL HSr HAr hm16 hus c0 c1 c2 zc
            obtain ⟨ua, uc, rfl, hul, huc, hur⟩ := Sep.rowv (l1 := [CO Try.c1 p r m2]) HS2.out
            have hus := HL2.out.len
            have hm16 := HL2.out.fit.small H1.out.2
            have hrec := recent16_any ua uc us2 r H1.out W2 (by omega) hur
            have hkeys := HL2.out.keys
            rw [← hkeys, List.length_map] at hrec
            clear hul huc hur
            go_wp2_with fail
            refine hrec.mono ?_
            rintro e W3 ⟨wv, rfl, ht⟩
            obtain ⟨hs3, hb3⟩ := HS2.out.made ht
            have hA3 := bl_tr HA2.out hb3
            have hs3' : Sep W3 w.heap.size ([] ++ CO Try.c1 p r m2 :: (RowO 3 1 (.slice ua us2.length uc) us2.length (cellsI us2) :: (l2 ++ [RowO 3 1 wv m2.length (cellsI (m2.map Prod.fst))]))) := by simpa using hs3
            obtain ⟨wa, wcap, rfl, hwl, hwc, hwr⟩ := Sep.rowv (l1 := CO Try.c1 p r m2 :: RowO 3 1 (.slice ua us2.length uc) us2.length (cellsI us2) :: l2) (l2 := []) (n := m2.length) (is := m2.map Prod.fst) (by simpa using hs3)
            have hcall := keys_s1 hs3' (by omega)
            have HA3 := Lib.hid hA3
            have HW3 := Lib.hid hwr
            clear hrec ht hs3 hs3' hb3 hA3 hwl hwc hwr
            go_wp2_with fail
            refine hcall.mono ?_
            rintro e W4 ⟨gk, rfl, hs4, hb4⟩
            have HA4 := Lib.hid (bl_tr HA3.out hb4)
            have hs4' : Sep W4 w.heap.size ([] ++ CO Try.c1 p r m2 :: (RowO 3 1 (.slice ua us2.length uc) us2.length (cellsI us2) :: (l2 ++ [RowO 3 1 (.slice wa m2.length wcap) m2.length (cellsI (m2.map Prod.fst)), RowO 3 1 (.slice (some ⟨gk, 0, none⟩) m2.length m2.length) m2.length (cellsI (m2.map Prod.fst))]))) := by simpa using hs4
            have hrk : RowI W4 (some ⟨gk, 0, none⟩) (m2.map Prod.fst) := Sep.rowI (l1 := CO Try.c1 p r m2 :: RowO 3 1 (.slice ua us2.length uc) us2.length (cellsI us2) :: (l2 ++ [RowO 3 1 (.slice wa m2.length wcap) m2.length (cellsI (m2.map Prod.fst))])) (l2 := []) (n := m2.length) (cap := m2.length) (by simpa using hs4) (by simp)
            have HW4 := Lib.hid (HW3.out.below hb4)
            have hcall := ints_any (some ⟨gk, 0, none⟩) wa m2.length wcap (m2.map Prod.fst) (m2.map Prod.fst) W4 (by rw [List.length_map]; omega) (by rw [List.length_map]; omega) hrk HW4.out
            rw [decide_eq_true rfl, List.length_map] at hcall
            have HS4 := Lib.hid hs4'
            clear hs4 hs4' hb4 hrk HW3
            go_wp2_with fail
            refine hcall.mono ?_
            rintro e W5 ⟨rfl, hb5⟩
            have HA5 := Lib.hid (bl_tr HA4.out hb5)
            have HS5 := Lib.hid (HS4.out.below hb5)
            have HW5 := Lib.hid (HW4.out.below hb5)
            have hcall := len_s1 HS5.out
            clear hb5 HW4 HS4
            go_wp2_with fail
            refine hcall.mono ?_
            rintro e W6 ⟨rfl, rfl⟩
            clear hcall
            go_wp2_with fail
            go_loopw [12] (fun i wr => ∃ j : Nat, j ≤ m2.length ∧ i = .int .i64 j ∧ Hid (Below W6.heap.size W6 wr)) (fun i _ => m2.length - (intOf i).toNat)
            case atStart => exact ⟨0, Nat.zero_le _, rfl, Lib.hid (bl0 _)⟩
            case round =>
              obtain ⟨j, hj, rfl, HB⟩ := hrel
              have hj0 : (0 : Int) ≤ (j : Int) := by omega
              by_cases hjl : j < m2.length
              · have hj2 : (j : Int) < (m2.length : Int) := by omega
                obtain ⟨y, hy⟩ : ∃ y, m2[j]? = some y := ⟨_, List.getElem?_eq_getElem hjl⟩
                have hym : y ∈ m2 := List.mem_of_getElem? hy
                obtain ⟨a1, a2⟩ := peek_mem HL2.out.fit.nd hym
                have hyv := HL2.out.vals y hym
                obtain ⟨g, o9, rfl, d0⟩ : ∃ g o9, wa = some ⟨g, o9, none⟩ ∧ W6.cell? ⟨g, o9 + j, none⟩ = some (.int .i64 y.1) := by
                  rcases HW5.out with e | ⟨g, o9, e, h⟩
                  · rw [List.map_eq_nil_iff] at e; rw [e] at hy; simp at hy
                  · exact ⟨g, o9, e, h j y.1 (by rw [List.getElem?_map, hy]; rfl)⟩
                have D0 := Lib.hid d0
                have d1 := cell_later HB.out d0
                have zd := blk_lt d1
                have hcall := peek_s1 y.1 (HS5.out.below HB.out) (by omega)
                rw [a1, a2] at hcall
                have HYV := Lib.hid hyv
                clear hy hym a1 a2 hyv d0
                go_wp2_with fail
                refine hcall.mono ?_
                rintro e W7 ⟨rfl, hs7, hb7⟩
                have HB7 := Lib.hid (bl_tr HB.out hb7)
                clear hs7 hb7 hcall d1 zd
                have hD := bl_dr (bl0 W7)
                have d1 := cell_later (bl_tr HB7.out hD) D0.out
                have hra := (HR.out.below (bl_tr HA5.out (bl_tr HB7.out hD)))
                have hrt : RowA W7.drew (some ⟨b, o, none⟩) (ls.take (k + 1)) := by
                  rcases hra with e | ⟨b9, o9, e, h⟩
                  · exact .inl (by rw [e]; simp)
                  · refine .inr ⟨b9, o9, e, fun i z hz => h i z ?_⟩
                    rw [List.getElem?_take] at hz
                    split at hz
                    · exact hz
                    · cases hz
                have hput := put16_any (some ⟨b, o, none⟩) ca (ls.take (k + 1)) y.1 W7.drew (by rw [List.length_take]; omega) hrt
                rw [show (ls.take (k + 1)).length = k + 1 by rw [List.length_take]; omega, ← HYV.out] at hput
                have hw1 : IntKind.i64.wrap ((k : Int) + 1) = (k : Int) + 1 := IntWalk.i64_in _ (by omega)
                have hk1 : (0 : Int) ≤ (k : Int) + 1 := by omega
                have hk2 : (k : Int) + 1 ≤ (ca : Int) := by omega
                have HD7 := Lib.hid (bl_tr HB7.out hD)
                clear hD hra hrt
                go_upto_region 25 with fail
                refine (wpIn_wide (n := 11)).1 ?_
                refine ordS_begin (S := (fun w' : World => w'.cell? ⟨g, o9 + j, none⟩ = some (.int .i64 y.1))) (by kernel_rfl) d1 (fun hH => ?_)
                refine' ordS_take (i := 0) (oi := { dst := some 131, op := Op.move (Operand.tmp 14), type := 4, pos := _, after := #[], guard := none }) (v := _) rfl (by kernel_rfl) (by kernel_rfl) (by kernel_rfl) (by kernel_rfl) (fun _ _ _ h => h) (by assumption) (Or.inl ⟨by rfl, ?hy12⟩) (fun _ => rfl) ?rest12
                case hy12 => (intro w hSw; (try dsimp only at hSw); go_simp; try with_reducible rfl)
                try simp only [Act.put, List.setIfInBounds_toArray, List.set_cons_zero, List.set_cons_succ]
                refine' ordS_take (i := 1) (oi := { dst := some 132, op := Op.unOp UnOp.not 4 (Operand.tmp 131), type := 4, pos := _, after := #[{ on := 0, ground := Ground.data }], guard := none }) (v := _) rfl (by kernel_rfl) (by kernel_rfl) (by kernel_rfl) (by kernel_rfl) (fun _ _ _ h => h) (by assumption) (Or.inl ⟨by rfl, ?hy13⟩) (fun _ => rfl) ?rest13
                case hy13 => (intro w hSw; (try dsimp only at hSw); go_simp; try with_reducible rfl)
                try simp only [Act.put, List.setIfInBounds_toArray, List.set_cons_zero, List.set_cons_succ]
                refine' ordS_take (i := 2) (oi := { dst := some 133, op := Op.move (Operand.tmp 132), type := 4, pos := _, after := #[{ on := 1, ground := Ground.data }], guard := none }) (v := _) rfl (by kernel_rfl) (by kernel_rfl) (by kernel_rfl) (by kernel_rfl) (fun _ _ _ h => h) (by assumption) (Or.inl ⟨by rfl, ?hy14⟩) (fun _ => rfl) ?rest14
                case hy14 => (intro w hSw; (try dsimp only at hSw); go_simp; try with_reducible rfl)
                try simp only [Act.put, List.setIfInBounds_toArray, List.set_cons_zero, List.set_cons_succ]
                refine' ordS_take (i := 3) (oi := { dst := some 134, op := Op.move (Operand.tmp 13), type := 3, pos := _, after := #[{ on := 2, ground := Ground.guard }], guard := some (2, false) }) (v := _) rfl (by kernel_rfl) (by kernel_rfl) (by kernel_rfl) (by kernel_rfl) (fun _ _ _ h => h) (by assumption) (Or.inl ⟨by rfl, ?hy15⟩) (fun _ => rfl) ?rest15
                case hy15 => (intro w hSw; (try dsimp only at hSw); go_simp; try with_reducible rfl)
                try simp only [Act.put, List.setIfInBounds_toArray, List.set_cons_zero, List.set_cons_succ]
                refine' ordS_take (i := 4) (oi := { dst := some 135, op := Op.move (Operand.tmp 1), type := 22, pos := _, after := #[{ on := 2, ground := Ground.guard }], guard := some (2, false) }) (v := _) rfl (by kernel_rfl) (by kernel_rfl) (by kernel_rfl) (by kernel_rfl) (fun _ _ _ h => h) (by assumption) (Or.inl ⟨by rfl, ?hy16⟩) (fun _ => rfl) ?rest16
                case hy16 => (intro w hSw; (try dsimp only at hSw); go_simp; try with_reducible rfl)
                try simp only [Act.put, List.setIfInBounds_toArray, List.set_cons_zero, List.set_cons_succ]
                refine' ordS_take (i := 5) (oi := { dst := some 136, op := Op.move (Operand.tmp 8), type := 3, pos := _, after := #[{ on := 2, ground := Ground.guard }], guard := some (2, false) }) (v := _) rfl (by kernel_rfl) (by kernel_rfl) (by kernel_rfl) (by kernel_rfl) (fun _ _ _ h => h) (by assumption) (Or.inl ⟨by rfl, ?hy17⟩) (fun _ => rfl) ?rest17
                case hy17 => (intro w hSw; (try dsimp only at hSw); go_simp; try with_reducible rfl)
                try simp only [Act.put, List.setIfInBounds_toArray, List.set_cons_zero, List.set_cons_succ]
                refine' ordS_take (i := 6) (oi := { dst := some 137, op := Op.binOp BinOp.add 3 (Operand.tmp 136) (Operand.const (Value.int IntKind.i64 1)) 3, type := 3, pos := _, after := #[{ on := 5, ground := Ground.data }, { on := 2, ground := Ground.guard }], guard := some (2, false) }) (v := _) rfl (by kernel_rfl) (by kernel_rfl) (by kernel_rfl) (by kernel_rfl) (fun _ _ _ h => h) (by assumption) (Or.inl ⟨by rfl, ?hy18⟩) (fun _ => rfl) ?rest18
                case hy18 => (intro w hSw; (try dsimp only at hSw); go_simp; try with_reducible rfl)
                try simp only [Act.put, List.setIfInBounds_toArray, List.set_cons_zero, List.set_cons_succ]
                refine' ordS_take (i := 7) (oi := { dst := some 138, op := Op.slice 22 (Operand.tmp 135) none (some (Operand.tmp 137)) none, type := 22, pos := _, after := #[{ on := 4, ground := Ground.data }, { on := 6, ground := Ground.data }, { on := 2, ground := Ground.guard }], guard := some (2, false) }) (v := _) rfl (by kernel_rfl) (by kernel_rfl) (by kernel_rfl) (by kernel_rfl) (fun _ _ _ h => h) (by assumption) (Or.inl ⟨by rfl, ?hy19⟩) (fun _ => rfl) ?rest19
                case hy19 => (intro w hSw; (try dsimp only at hSw); go_simp; try with_reducible rfl)
                try simp only [Act.put, List.setIfInBounds_toArray, List.set_cons_zero, List.set_cons_succ]
                refine' ordS_take (i := 8) (oi := { dst := some 139, op := Op.move (Operand.tmp 11), type := 47, pos := _, after := #[{ on := 2, ground := Ground.guard }], guard := some (2, false) }) (v := _) rfl (by kernel_rfl) (by kernel_rfl) (by kernel_rfl) (by kernel_rfl) (fun _ _ _ h => h) (by assumption) (Or.inl ⟨by rfl, ?hy20⟩) (fun _ => rfl) ?rest20
                case hy20 => (intro w hSw; (try dsimp only at hSw); go_simp; try with_reducible rfl)
                try simp only [Act.put, List.setIfInBounds_toArray, List.set_cons_zero, List.set_cons_succ]
                refine' ordS_take (i := 9) (oi := { dst := some 140, op := Op.move (Operand.tmp 12), type := 3, pos := _, after := #[{ on := 2, ground := Ground.guard }], guard := some (2, false) }) (v := _) rfl (by kernel_rfl) (by kernel_rfl) (by kernel_rfl) (by kernel_rfl) (fun _ _ _ h => h) (by assumption) (Or.inl ⟨by rfl, ?hy21⟩) (fun _ => rfl) ?rest21
                case hy21 => (intro w hSw; (try dsimp only at hSw); go_simp; try with_reducible rfl)
                try simp only [Act.put, List.setIfInBounds_toArray, List.set_cons_zero, List.set_cons_succ]
                refine' ordS_take (i := 10) (oi := { dst := some 141, op := Op.indexAddr 47 (Operand.tmp 139) (Operand.tmp 140), type := 0, pos := _, after := #[{ on := 8, ground := Ground.data }, { on := 9, ground := Ground.data }, { on := 2, ground := Ground.guard }], guard := some (2, false) }) (v := _) rfl (by kernel_rfl) (by kernel_rfl) (by kernel_rfl) (by kernel_rfl) (fun _ _ _ h => h) (by assumption) (Or.inl ⟨by rfl, ?hy22⟩) (fun _ => rfl) ?rest22
                case hy22 => (intro w hSw; (try dsimp only at hSw); go_simp; try with_reducible rfl)
                try simp only [Act.put, List.setIfInBounds_toArray, List.set_cons_zero, List.set_cons_succ]
                refine' ordS_take (i := 11) (oi := { dst := some 142, op := Op.load 3 (Operand.tmp 141), type := 3, pos := _, after := #[{ on := 10, ground := Ground.data }, { on := 2, ground := Ground.guard }], guard := some (2, false) }) (v := _) rfl (by kernel_rfl) (by kernel_rfl) (by kernel_rfl) (by kernel_rfl) (fun _ _ _ h => h) (by assumption) (Or.inl ⟨by rfl, ?hy23⟩) (fun _ => rfl) ?rest23
                case hy23 => (intro w hSw; (try dsimp only at hSw); go_simp; try with_reducible rfl)
                try simp only [Act.put, List.setIfInBounds_toArray, List.set_cons_zero, List.set_cons_succ]
                refine ordS_one (i := 12) (o := { dst := some 143, op := Op.call { callee := Callee.value (Operand.func 26), args := #[Operand.tmp 138, Operand.tmp 142], argTypes := #[22, 3] }, type := 3, pos := _, after := #[{ on := 7, ground := Ground.data }, { on := 11, ground := Ground.data }, { on := 2, ground := Ground.chain }, { on := 2, ground := Ground.guard }], guard := some (2, false) }) (by kernel_rfl) rfl (by rfl) (fun K hK => ?_)
                go_simp
                refine ⟨trivial, ?_⟩
                refine callsIn_wide.2 (hput.mono ?_)
                rintro e W8 ⟨rfl, rfl⟩
                refine hK _ _ d1 ?_
                clear hK K hH hput
                try simp only [Act.put, List.setIfInBounds_toArray, List.set_cons_zero, List.set_cons_succ]
                refine' ordS_take (i := 13) (oi := { dst := some 144, op := Op.binOp BinOp.neq 3 (Operand.tmp 134) (Operand.tmp 143) 3, type := 4, pos := _, after := #[{ on := 3, ground := Ground.data }, { on := 12, ground := Ground.data }, { on := 2, ground := Ground.guard }], guard := some (2, false) }) (v := _) rfl (by kernel_rfl) (by kernel_rfl) (by kernel_rfl) (by kernel_rfl) (fun _ _ _ h => h) (by assumption) (Or.inl ⟨by rfl, ?hy24⟩) (fun _ => rfl) ?rest24
                case hy24 => (intro w hSw; (try dsimp only at hSw); go_simp; try with_reducible rfl)
                try simp only [Act.put, List.setIfInBounds_toArray, List.set_cons_zero, List.set_cons_succ]
                refine' ordS_take (i := 14) (oi := { dst := some 145, op := Op.pick (Operand.tmp 133) (Operand.const (Value.bool true)) (Operand.tmp 144), type := 4, pos := _, after := #[{ on := 2, ground := Ground.data }, { on := 13, ground := Ground.data }], guard := none }) (v := _) rfl (by kernel_rfl) (by kernel_rfl) (by kernel_rfl) (by kernel_rfl) (fun _ _ _ h => h) (by assumption) (Or.inl ⟨by rfl, ?hy25⟩) (fun _ => rfl) ?rest25
                case hy25 => (intro w hSw; (try dsimp only at hSw); go_simp; try with_reducible rfl)
                try simp only [Act.put, List.setIfInBounds_toArray, List.set_cons_zero, List.set_cons_succ]
                refine ordS_done (by kernel_rfl) ?_
                clear d1
                go_wp2
                go_roundw
                case rel => exact ⟨j + 1, by omega, by go_num, HD7⟩
                case measure => simp [intOf]; omega
              · obtain rfl : j = m2.length := by omega
                have hge : ¬ (m2.length : Int) < (m2.length : Int) := by omega
                have HSf := Lib.hid (HS5.out.below HB.out)
                have HAf := Lib.hid (bl_tr HA5.out HB.out)
                go_wp2
                go_roundw
                case rel => exact ⟨k + 1, m2, us2, _, by omega, by go_num, HL2, HSf, HAf⟩
                case measure => simp [intOf]; omega
        · obtain rfl : k = ls.length := by omega
          have hge : ¬ (ls.length : Int) < (ls.length : Int) := by omega
          have hA := HAr.out
          clear HL HSr HAr
          have HA := Lib.hid hA
          clear hA
          go_wp2_with fail
          refine (awake16 _).mono ?_
          rintro e w9 ⟨rfl, hb⟩
          have HZ := Lib.hid (bl_tr HA.out hb)
          clear hb HA
          go_wp2
          go_ret
          exact ⟨rfl, HZ.out⟩
  · go_enter Try.func4, Try.ntmps4
    go_wp2_with fail
    refine (new_n1 r h1 w).mono ?_
    rintro e w1 ⟨rfl, hA⟩
    clear h0 h1 hr
    have HA := Lib.hid hA
    clear hA
    go_wp2_with fail
    refine (awake16 _).mono ?_
    rintro e w9 ⟨rfl, hb⟩
    have HZ := Lib.hid (bl_tr HA.out hb)
    clear hb HA
    go_wp2
    go_ret
    exact ⟨rfl, HZ.out⟩
end Go.Proofs.Ytbmpgafndpdnbaa
