/- GeomBox: the law's walk. -/
import Derived.Test.YtcbhbekhogcedaaDoorLfits
import Derived.Test.YtcbhbekhogcedaaDoorRe
import Derived.Test.YtcbhbekhogcedaaDoorOh
namespace Go.Proofs.YtcbhbekhogcedaaDoor
open Go.RowKit Go.Shelf
attribute [local go_sem] Oper.semAt_some

theorem cell_set {W : World} {k i j : Nat} {v u : Value} (h : W.cell? ⟨k, i, none⟩ = some v) (hne : k ≠ j) : (W.setCell ⟨j, 0, none⟩ u).cell? ⟨k, i, none⟩ = some v :=
  (World.cell?_of_block (a := ⟨k, i, none⟩) (Below.heap_setCell W ⟨j, 0, none⟩ u k (by show k ≠ j; exact hne))).trans h
theorem cellsOf_at (X : Int) (U : Nat) : ∀ (ys : List Int) (i : Nat) (p : Int × Int), (cellsOf X U ys)[i]? = some p → p.1 = X + ((i % U : Nat) : Int) ∧ ys[i / U]? = some p.2
  | [], i, p, h => by simp [cellsOf] at h
  | y :: ys, i, p, h => by
    have e : cellsOf X U (y :: ys) = upto (fun c => (X + (c : Int), y)) U ++ cellsOf X U ys := by simp [cellsOf]
    rw [e] at h
    by_cases hi : i < U
    · rw [List.getElem?_append_left (by rw [upto_length]; exact hi)] at h
      simp [upto, hi] at h
      subst h
      rw [Nat.mod_eq_of_lt hi, Nat.div_eq_of_lt hi]
      exact ⟨rfl, rfl⟩
    · rw [List.getElem?_append_right (by rw [upto_length]; omega), upto_length] at h
      obtain ⟨a, b⟩ := cellsOf_at X U ys (i - U) p h
      by_cases hU : U = 0
      · subst hU
        exfalso
        have hl := (List.getElem?_eq_some_iff.1 h).1
        rw [cellsOf_len] at hl
        omega
      · rw [Nat.mod_eq_sub_mod (by omega), Nat.div_eq_sub_div (by omega) (by omega)]
        exact ⟨a, by simpa using b⟩
theorem boxCells_at {X Y U V : Int} {i : Nat} {p : Int × Int} (h : (boxCells X Y U V)[i]? = some p) : hasB X Y U V p.1 p.2 = true ∧ p.1 = X + (i : Int) % U ∧ p.2 = Y + (i : Int) / U := by
  have hm := mem_boxCells.1 (List.mem_of_getElem? h)
  have hr := (hasB_iff.1 hm).1
  obtain ⟨r1, r2, r3, r4, r5, r6, r7, r8⟩ := rightB_iff.1 hr
  obtain ⟨a, b⟩ := cellsOf_at _ _ _ _ _ h
  simp only [upto, List.getElem?_map, Option.map_eq_some_iff] at b
  obtain ⟨k, hk, hb⟩ := b
  have hk2 := (List.getElem?_eq_some_iff.1 hk).2
  simp at hk2
  have hU : ((U.toNat : Nat) : Int) = U := by omega
  refine ⟨hm, ?_, ?_⟩
  · rw [a, Int.natCast_emod, hU]
  · rw [← hb, ← hk2, Int.natCast_ediv, hU]

/-- A cell that is not where its number says. -/
def BadB (X Y U V : Int) (q : List (Int × Int)) : Prop := ∃ (i : Nat) (p : Int × Int), q[i]? = some p ∧ ¬ (hasB X Y U V p.1 p.2 = true ∧ p.1 = X + (i : Int) % U ∧ p.2 = Y + (i : Int) / U)
theorem BadB.last {X Y U V : Int} {pre : List (Int × Int)} {p : Int × Int} (h : ¬ (hasB X Y U V p.1 p.2 = true ∧ p.1 = X + (pre.length : Int) % U ∧ p.2 = Y + (pre.length : Int) / U)) : BadB X Y U V (pre ++ [p]) :=
  ⟨pre.length, p, by simp, h⟩
theorem BadB.no {X Y U V : Int} {q : List (Int × Int)} (h : BadB X Y U V q) (hq : q <+: boxCells X Y U V) : False := by
  obtain ⟨i, p, hp, hno⟩ := h
  obtain ⟨t, ht⟩ := hq
  exact hno (boxCells_at (by rw [← ht, List.getElem?_append_left (List.getElem?_eq_some_iff.1 hp).1]; exact hp))

def anB (P Q : Int) (pre : List (Int × Int)) : Bool := pre.any (fun p => p.1 == P && p.2 == Q)
theorem anB_snoc (P Q : Int) (pre : List (Int × Int)) (p : Int × Int) : anB P Q (pre ++ [p]) = (anB P Q pre || (p.1 == P && p.2 == Q)) := by simp [anB]
theorem anB_box (X Y U V P Q : Int) : anB P Q (boxCells X Y U V) = hasB X Y U V P Q := by
  rw [Bool.eq_iff_iff]
  unfold anB
  simp only [List.any_eq_true, Bool.and_eq_true, beq_iff_eq]
  constructor
  · rintro ⟨p, hp, rfl, rfl⟩; exact mem_boxCells.1 hp
  · intro h; exact ⟨(P, Q), mem_boxCells.2 h, rfl, rfl⟩

theorem FixF.below {w W W' : World} {A B X Y U V P Q : Int} (h : FixF w W A B X Y U V P Q) (hb : Below W.heap.size W W') : FixF w W' A B X Y U V P Q := by
  obtain ⟨⟨s0, s1⟩, ⟨x0, x1, x2, x3⟩, ⟨p0, p1⟩, h6⟩ := h
  exact ⟨⟨cell_later hb s0, cell_later hb s1⟩, ⟨cell_later hb x0, cell_later hb x1, cell_later hb x2, cell_later hb x3⟩, ⟨cell_later hb p0, cell_later hb p1⟩, bl_tr h6 hb⟩
/-- What the loop holds. -/
def InvB (w : World) (m n₁ : Nat) (A B X Y U V P Q : Int) (pre : List (Int × Int)) (W : World) : Prop :=
  (Boxed W m 3 (.int .i64 (pre.length : Int)) ∧ Boxed W (m + 1) 4 (.bool (anB P Q pre)) ∧ Boxed W (w.heap.size + 1 + 1 + 1) 4 (.bool false)) ∧ FixF w W A B X Y U V P Q ∧ n₁ ≤ W.heap.size
theorem InvB.below {w W W' : World} {m n₁ : Nat} {A B X Y U V P Q : Int} {pre : List (Int × Int)} (h : InvB w m n₁ A B X Y U V P Q pre W) (hb : Below W.heap.size W W') : InvB w m n₁ A B X Y U V P Q pre W' := by
  obtain ⟨⟨h1, h2, h3⟩, h4, h5⟩ := h
  exact ⟨⟨boxed_below h1 hb, boxed_below h2 hb, boxed_below h3 hb⟩, h4.below hb, Nat.le_trans h5 hb.size⟩
theorem InvB.next {w W : World} {m n₁ : Nat} {A B X Y U V P Q : Int} {pre : List (Int × Int)} {p : Int × Int} {v : Bool} (hm : w.heap.size + 4 ≤ m) (hv : v = anB P Q (pre ++ [p])) (h : InvB w m n₁ A B X Y U V P Q pre W) :
    InvB w m n₁ A B X Y U V P Q (pre ++ [p]) ((W.setCell ⟨m + 1, 0, none⟩ (.bool v)).setCell ⟨m, 0, none⟩ (.int .i64 ((pre.length : Int) + 1))) := by
  obtain ⟨⟨h1, h2, h3⟩, h4, h5⟩ := h
  subst hv
  refine ⟨⟨?_, (h2.set _).other (by omega) _, (h3.other (by omega) _).other (by omega) _⟩, (h4.set _ (by omega)).set _ (by omega), by simpa using h5⟩
  have := (h1.other (B' := m + 1) (by omega) (.bool (anB P Q (pre ++ [p])))).set (.int .i64 ((pre.length : Int) + 1))
  simpa using this

set_option maxRecDepth 100000 in
set_option maxHeartbeats 4000000 in
theorem box_walk (A B X Y U V P Q : Int) (w : World) (hs : Stp w) :
    Calls Tryd.prog 3 #[.agg #[.int .i64 A, .int .i64 B], .agg #[.int .i64 X, .int .i64 Y, .int .i64 U, .int .i64 V], .agg #[.int .i64 P, .int .i64 Q]] w fun e w' => e = .returned (.bool true) ∧ Below w.heap.size w w' := by
  refine (callsIn_wide (n := 11)).1 (callsIn_of_wp_marks Tryd.func3 rfl trivial ?_ rfl)
  simp only [Tryd.ntmps3, List.size_toArray, List.length_cons, List.length_nil, Nat.reduceAdd, Nat.reduceSub, Array.replicate_succ, Array.replicate_zero, List.push_toArray, List.append_toArray, List.nil_append, List.cons_append]
  refine wpIn_wide.2 ?_
  go_upto_region 1 with fail
  obtain ⟨Wa, hWa⟩ : ∃ Wa, (((w.alloc (.cells #[.int .i64 A, .int .i64 B] 23)).alloc (.cells #[.int .i64 X, .int .i64 Y, .int .i64 U, .int .i64 V] 25)).alloc (.cells #[.int .i64 P, .int .i64 Q] 27)).alloc (.cells #[.bool false] 4) = Wa := ⟨_, rfl⟩
  have hza : Wa.heap.size = w.heap.size + 4 := by rw [← hWa]; simp
  have hba : Below w.heap.size w Wa := by rw [← hWa]; exact bl_al (bl_al (bl_al (bl_al (bl0 _) _) _) _) _
  have hfx : FixF w Wa A B X Y U V P Q := by rw [← hWa]; exact ⟨⟨by simp [go_sem], by simp [go_sem]⟩, ⟨by simp [go_sem], by simp [go_sem], by simp [go_sem], by simp [go_sem]⟩, ⟨by simp [go_sem], by simp [go_sem]⟩, bl_al (bl_al (bl_al (bl_al (bl0 _) _) _) _) _⟩
  have hr3 : Boxed Wa (w.heap.size + 1 + 1 + 1) 4 (.bool false) := by
    have h := Boxed.new (((w.alloc (.cells #[.int .i64 A, .int .i64 B] 23)).alloc (.cells #[.int .i64 X, .int .i64 Y, .int .i64 U, .int .i64 V] 25)).alloc (.cells #[.int .i64 P, .int .i64 Q] 27)) 4 (.bool false)
    rw [← hWa]; simpa using h
  rw [hWa]
  clear hWa
  go_cut [27] from 12 to 27 (fun s wx => s = .bool false ∧ Below Wa.heap.size Wa wx)
  case first =>
    obtain ⟨⟨s0, s1⟩, ⟨x0, x1, x2, x3⟩, ⟨p0, p1⟩, _⟩ := hfx
    have h1 := fits_any A B X Y U V
    have h2 := rfits_any A B X Y U V
    have h3 := has_any X Y U V P Q
    have h4 := rhas_any X Y U V P Q
    generalize fitsB A B X Y U V = r at h1 h2
    generalize hasB X Y U V P Q = q at h3 h4
    have hA := bl_dr (bl0 Wa)
    have hrr : (r != r) = false := by simp
    have hqq : (q != q) = false := by simp
    go_region_held3 (fun w' => w'.cell? ⟨w.heap.size, 0, none⟩ = some (.int .i64 A) ∧ w'.cell? ⟨w.heap.size, 1, none⟩ = some (.int .i64 B) ∧ w'.cell? ⟨w.heap.size + 1, 0, none⟩ = some (.int .i64 X) ∧ w'.cell? ⟨w.heap.size + 1, 1, none⟩ = some (.int .i64 Y) ∧ w'.cell? ⟨w.heap.size + 1, 2, none⟩ = some (.int .i64 U) ∧ w'.cell? ⟨w.heap.size + 1, 3, none⟩ = some (.int .i64 V) ∧ w'.cell? ⟨w.heap.size + 1 + 1, 0, none⟩ = some (.int .i64 P) ∧ w'.cell? ⟨w.heap.size + 1 + 1, 1, none⟩ = some (.int .i64 Q))
      (exact ⟨cell_later hA s0, cell_later hA s1, cell_later hA x0, cell_later hA x1, cell_later hA x2, cell_later hA x3, cell_later hA p0, cell_later hA p1⟩)
      (first
        | (go_at_call 5; refine (h1 _).mono ?_; rintro e W2 ⟨rfl, hb⟩; replace hA := bl_tr hA hb; clear hb)
        | (go_at_call 6; refine (h2 _).mono ?_; rintro e W2 ⟨rfl, hb⟩; replace hA := bl_tr hA hb; clear hb)
        | (go_at_call 7; refine (h3 _).mono ?_; rintro e W2 ⟨rfl, hb⟩; replace hA := bl_tr hA hb; clear hb)
        | (go_at_call 8; refine (h4 _).mono ?_; rintro e W2 ⟨rfl, hb⟩; replace hA := bl_tr hA hb; clear hb))
    all_goals
      go_wp2_with fail
      go_meet
      exact ⟨rfl, hA⟩
  case rest =>
    obtain ⟨rfl, hk2⟩ := hcut
    have hfx2 := hfx.below hk2
    have hr2 := boxed_below hr3 hk2
    have hzc : w.heap.size + 4 ≤ wc.heap.size := by have := hk2.size; omega
    clear hfx hr3
    have hfx3 := hfx2
    obtain ⟨⟨s0, s1⟩, ⟨x0, x1, x2, x3⟩, ⟨p0, p1⟩, hbw⟩ := hfx3
    have zx := blk_lt x0
    have zx2 : w.heap.size + 1 < wc.heap.size + 1 := by omega
    have hn := eql_nil
    go_wp2_with fail
    refine (cells_call _ _ _ _ _).mono ?_
    rintro e w1 ⟨rfl, rfl⟩
    go_wp2_with fail
    obtain ⟨m, hm⟩ : ∃ m, wc.heap.size = m := ⟨_, rfl⟩
    obtain ⟨W0, hW0⟩ : ∃ W0, ((wc.alloc (.cells #[.int .i64 0] 3)).alloc (.cells #[.bool false] 4)).alloc (.cells #[.int .i64 X, .int .i64 Y, .int .i64 U, .int .i64 V] 25) = W0 := ⟨_, rfl⟩
    have hz : W0.heap.size = m + 3 := by rw [← hW0, ← hm]; simp
    have hkW : Below wc.heap.size wc W0 := by rw [← hW0]; exact bl_al (bl_al (bl_al (bl0 _) _) _) _
    have hInv : InvB w m W0.heap.size A B X Y U V P Q [] W0 := by
      refine ⟨⟨?_, ?_, boxed_below hr2 hkW⟩, hfx2.below hkW, Nat.le_refl _⟩
      · have h := ((Boxed.new wc 3 (.int .i64 0)).alloc (.cells #[.bool false] 4)).alloc (.cells #[.int .i64 X, .int .i64 Y, .int .i64 U, .int .i64 V] 25)
        rw [← hW0, ← hm]
        simpa using h
      · have h := (Boxed.new (wc.alloc (.cells #[.int .i64 0] 3)) 4 (.bool false)).alloc (.cells #[.int .i64 X, .int .i64 Y, .int .i64 U, .int .i64 V] 25)
        rw [← hW0, ← hm]
        simpa [anB] using h
    have hBx : BoxAt W0 (m + 1 + 1) X Y U V := by rw [← hW0, ← hm]; refine ⟨?_, ?_, ?_, ?_⟩ <;> simp [go_sem]
    rw [hW0, hm]
    clear hW0 s0 s1 x0 x1 x2 x3 p0 p1 zx zx2 hn hr2 hfx2 hbw
    refine wpIn_wide.1 (range_cells_box (m + 1 + 1) X Y U V _ rfl 10 rfl rfl hBx (InvB w m W0.heap.size A B X Y U V P Q) (fun q _ => BadB X Y U V q) ?oI (fun _ _ _ _ h _ _ => h) hInv (fun _ _ h => h.2.2) ?assign ?body ?done ?stop)
    case oI =>
      rintro pre C D row ⟨⟨h1, h2, h3⟩, h4, h5⟩ hg hr
      have hr' := fun r e => (hr r e).2
      exact ⟨⟨boxed_own _ _ (fun (_ : Unit) => _) () C D row h1 hg hr', boxed_own _ _ (fun (_ : Unit) => _) () C D row h2 hg hr', boxed_own _ _ (fun (_ : Unit) => _) () C D row h3 hg hr'⟩, FixF.own (by omega) A B X Y U V P Q pre C D row h4 hg hr, Nat.le_trans h5 hg.size⟩
    case assign =>
      intro l p W K hK
      simp [roundTmps] at hK
      simp only [roundTmps]
      gi_wp2
      exact hK
    case stop =>
      rintro D2 q W2 _ hq hbad _
      exact (hbad.no hq).elim
    case body =>
      rintro l pre ⟨a, b⟩ Bx W2 hI hBl d0 d1 hlen
      dsimp only at d0 d1
      have hI' := hI
      obtain ⟨⟨h1, h2, h3⟩, ⟨_, ⟨x0, x1, x2, x3⟩, ⟨p0, p1⟩, _⟩, _⟩ := hI'
      have c1 := h1.cell
      have hlb : (pre.length : Int) ≤ 65536 := by
        have hr : rowsOf X Y U V * U.toNat ≤ 256 * 256 := by
          by_cases hr : rightB X Y U V = true
          · have := rightB_iff.1 hr
            exact Nat.mul_le_mul (rowsOf_le X Y U V) (by omega)
          · simp [rowsOf, hr]
        omega
      have hl0 : (0 : Int) ≤ (pre.length : Int) := by omega
      generalize hk : (pre.length : Int) = k at c1 hlb hl0
      simp only [roundTmps]
      simp
      cases hh : hasB X Y U V a b
      case' false =>
        gi_wp2_with fail
        refine ordS_begin (S := (fun w' => w'.cell? ⟨w.heap.size + 1, 0, none⟩ = some (.int .i64 X) ∧ w'.cell? ⟨w.heap.size + 1, 1, none⟩ = some (.int .i64 Y) ∧ w'.cell? ⟨w.heap.size + 1, 2, none⟩ = some (.int .i64 U) ∧ w'.cell? ⟨w.heap.size + 1, 3, none⟩ = some (.int .i64 V) ∧ w'.cell? ⟨Bx, 0, none⟩ = some (.int .i64 a) ∧ w'.cell? ⟨Bx, 1, none⟩ = some (.int .i64 b) ∧ w'.cell? ⟨m, 0, none⟩ = some (.int .i64 k))) (by kernel_rfl) ⟨cell_later (bl_dr (bl0 _)) x0, cell_later (bl_dr (bl0 _)) x1, cell_later (bl_dr (bl0 _)) x2, cell_later (bl_dr (bl0 _)) x3, cell_later (bl_dr (bl0 _)) d0, cell_later (bl_dr (bl0 _)) d1, cell_later (bl_dr (bl0 _)) c1⟩ (fun hH => ?_)
        first
          | (refine' ordS_take (i := 0) (oi := { dst := some 34, op := Op.load 25 (Operand.tmp 4), type := 25, pos := _, after := #[], guard := none }) (v := _) rfl (by kernel_rfl) (by kernel_rfl) (by kernel_rfl) (by kernel_rfl) (fun _ _ _ h => h) (by assumption) (Or.inl ⟨by rfl, ?hy1⟩) (fun _ => rfl) ?rest1
             case hy1 => (intro w hSw; (try dsimp only at hSw); go_simp; try with_reducible rfl))
          | (refine ordS_take (i := 0) (oi := { dst := some 34, op := Op.load 25 (Operand.tmp 4), type := 25, pos := _, after := #[], guard := none }) (v := undef) rfl (by kernel_rfl) (by kernel_rfl) (by kernel_rfl) (by kernel_rfl) (fun _ _ _ h => h) (by assumption) (Or.inr ⟨by rfl, rfl⟩) (fun _ => rfl) ?_)
        try simp only [Act.put, List.setIfInBounds_toArray, List.set_cons_zero, List.set_cons_succ]
        first
          | (refine' ordS_take (i := 1) (oi := { dst := some 35, op := Op.load 27 (Operand.tmp 10), type := 27, pos := _, after := #[], guard := none }) (v := _) rfl (by kernel_rfl) (by kernel_rfl) (by kernel_rfl) (by kernel_rfl) (fun _ _ _ h => h) (by assumption) (Or.inl ⟨by rfl, ?hy2⟩) (fun _ => rfl) ?rest2
             case hy2 => (intro w hSw; (try dsimp only at hSw); go_simp; try with_reducible rfl))
          | (refine ordS_take (i := 1) (oi := { dst := some 35, op := Op.load 27 (Operand.tmp 10), type := 27, pos := _, after := #[], guard := none }) (v := undef) rfl (by kernel_rfl) (by kernel_rfl) (by kernel_rfl) (by kernel_rfl) (fun _ _ _ h => h) (by assumption) (Or.inr ⟨by rfl, rfl⟩) (fun _ => rfl) ?_)
        try simp only [Act.put, List.setIfInBounds_toArray, List.set_cons_zero, List.set_cons_succ]
        refine ordS_one (i := 2) (o := { dst := some 36, op := Op.call { callee := Callee.value (Operand.func 8), args := #[Operand.tmp 34, Operand.tmp 35], argTypes := #[25, 27] }, type := 4, pos := _, after := #[{ on := 0, ground := Ground.data }, { on := 1, ground := Ground.data }], guard := none }) (by kernel_rfl) rfl (by rfl) (fun K hK => ?_)
        go_simp
        refine ⟨trivial, (CallsIn.inRound l (callsIn_wide.2 (rhas_any _ _ _ _ _ _ _))).mono ?_⟩
        rintro e W3 ⟨rfl, hb⟩
        have hk3 := bl_tr (bl_dr (bl0 _)) hb
        clear hb
        rw [hh]
        have hi3 := hI.below hk3
        have hS3 : (fun w' => w'.cell? ⟨w.heap.size + 1, 0, none⟩ = some (.int .i64 X) ∧ w'.cell? ⟨w.heap.size + 1, 1, none⟩ = some (.int .i64 Y) ∧ w'.cell? ⟨w.heap.size + 1, 2, none⟩ = some (.int .i64 U) ∧ w'.cell? ⟨w.heap.size + 1, 3, none⟩ = some (.int .i64 V) ∧ w'.cell? ⟨Bx, 0, none⟩ = some (.int .i64 a) ∧ w'.cell? ⟨Bx, 1, none⟩ = some (.int .i64 b) ∧ w'.cell? ⟨m, 0, none⟩ = some (.int .i64 k)) W3 := ⟨cell_later hk3 x0, cell_later hk3 x1, cell_later hk3 x2, cell_later hk3 x3, cell_later hk3 d0, cell_later hk3 d1, cell_later hk3 c1⟩
        refine hK _ _ hS3 ?_
        clear hK K hH
        try simp only [Act.put, List.setIfInBounds_toArray, List.set_cons_zero, List.set_cons_succ]
        first
          | (refine' ordS_take (i := 3) (oi := { dst := some 37, op := Op.unOp UnOp.not 4 (Operand.tmp 36), type := 4, pos := _, after := #[{ on := 2, ground := Ground.data }], guard := none }) (v := _) rfl (by kernel_rfl) (by kernel_rfl) (by kernel_rfl) (by kernel_rfl) (fun _ _ _ h => h) (by assumption) (Or.inl ⟨by rfl, ?hy3⟩) (fun _ => rfl) ?rest3
             case hy3 => (intro w hSw; (try dsimp only at hSw); go_simp; try with_reducible rfl))
          | (refine ordS_take (i := 3) (oi := { dst := some 37, op := Op.unOp UnOp.not 4 (Operand.tmp 36), type := 4, pos := _, after := #[{ on := 2, ground := Ground.data }], guard := none }) (v := undef) rfl (by kernel_rfl) (by kernel_rfl) (by kernel_rfl) (by kernel_rfl) (fun _ _ _ h => h) (by assumption) (Or.inr ⟨by rfl, rfl⟩) (fun _ => rfl) ?_)
        try simp only [Act.put, List.setIfInBounds_toArray, List.set_cons_zero, List.set_cons_succ]
        first
          | (refine' ordS_take (i := 4) (oi := { dst := some 38, op := Op.move (Operand.tmp 37), type := 4, pos := _, after := #[{ on := 3, ground := Ground.data }, { on := 2, ground := Ground.chain }], guard := none }) (v := _) rfl (by kernel_rfl) (by kernel_rfl) (by kernel_rfl) (by kernel_rfl) (fun _ _ _ h => h) (by assumption) (Or.inl ⟨by rfl, ?hy4⟩) (fun _ => rfl) ?rest4
             case hy4 => (intro w hSw; (try dsimp only at hSw); go_simp; try with_reducible rfl))
          | (refine ordS_take (i := 4) (oi := { dst := some 38, op := Op.move (Operand.tmp 37), type := 4, pos := _, after := #[{ on := 3, ground := Ground.data }, { on := 2, ground := Ground.chain }], guard := none }) (v := undef) rfl (by kernel_rfl) (by kernel_rfl) (by kernel_rfl) (by kernel_rfl) (fun _ _ _ h => h) (by assumption) (Or.inr ⟨by rfl, rfl⟩) (fun _ => rfl) ?_)
        try simp only [Act.put, List.setIfInBounds_toArray, List.set_cons_zero, List.set_cons_succ]
        first
          | (refine' ordS_take (i := 5) (oi := { dst := some 39, op := Op.fieldAddr 27 (Operand.tmp 10) 0, type := 0, pos := _, after := #[{ on := 4, ground := Ground.guard }], guard := some (4, false) }) (v := _) rfl (by kernel_rfl) (by kernel_rfl) (by kernel_rfl) (by kernel_rfl) (fun _ _ _ h => h) (by assumption) (Or.inl ⟨by rfl, ?hy5⟩) (fun _ => rfl) ?rest5
             case hy5 => (intro w hSw; (try dsimp only at hSw); go_simp; try with_reducible rfl))
          | (refine ordS_take (i := 5) (oi := { dst := some 39, op := Op.fieldAddr 27 (Operand.tmp 10) 0, type := 0, pos := _, after := #[{ on := 4, ground := Ground.guard }], guard := some (4, false) }) (v := undef) rfl (by kernel_rfl) (by kernel_rfl) (by kernel_rfl) (by kernel_rfl) (fun _ _ _ h => h) (by assumption) (Or.inr ⟨by rfl, rfl⟩) (fun _ => rfl) ?_)
        try simp only [Act.put, List.setIfInBounds_toArray, List.set_cons_zero, List.set_cons_succ]
        first
          | (refine' ordS_take (i := 6) (oi := { dst := some 40, op := Op.load 3 (Operand.tmp 39), type := 3, pos := _, after := #[{ on := 5, ground := Ground.data }, { on := 4, ground := Ground.guard }], guard := some (4, false) }) (v := _) rfl (by kernel_rfl) (by kernel_rfl) (by kernel_rfl) (by kernel_rfl) (fun _ _ _ h => h) (by assumption) (Or.inl ⟨by rfl, ?hy6⟩) (fun _ => rfl) ?rest6
             case hy6 => (intro w hSw; (try dsimp only at hSw); go_simp; try with_reducible rfl))
          | (refine ordS_take (i := 6) (oi := { dst := some 40, op := Op.load 3 (Operand.tmp 39), type := 3, pos := _, after := #[{ on := 5, ground := Ground.data }, { on := 4, ground := Ground.guard }], guard := some (4, false) }) (v := undef) rfl (by kernel_rfl) (by kernel_rfl) (by kernel_rfl) (by kernel_rfl) (fun _ _ _ h => h) (by assumption) (Or.inr ⟨by rfl, rfl⟩) (fun _ => rfl) ?_)
        try simp only [Act.put, List.setIfInBounds_toArray, List.set_cons_zero, List.set_cons_succ]
        first
          | (refine' ordS_take (i := 7) (oi := { dst := some 41, op := Op.fieldAddr 25 (Operand.tmp 4) 0, type := 0, pos := _, after := #[{ on := 4, ground := Ground.guard }], guard := some (4, false) }) (v := _) rfl (by kernel_rfl) (by kernel_rfl) (by kernel_rfl) (by kernel_rfl) (fun _ _ _ h => h) (by assumption) (Or.inl ⟨by rfl, ?hy7⟩) (fun _ => rfl) ?rest7
             case hy7 => (intro w hSw; (try dsimp only at hSw); go_simp; try with_reducible rfl))
          | (refine ordS_take (i := 7) (oi := { dst := some 41, op := Op.fieldAddr 25 (Operand.tmp 4) 0, type := 0, pos := _, after := #[{ on := 4, ground := Ground.guard }], guard := some (4, false) }) (v := undef) rfl (by kernel_rfl) (by kernel_rfl) (by kernel_rfl) (by kernel_rfl) (fun _ _ _ h => h) (by assumption) (Or.inr ⟨by rfl, rfl⟩) (fun _ => rfl) ?_)
        try simp only [Act.put, List.setIfInBounds_toArray, List.set_cons_zero, List.set_cons_succ]
        first
          | (refine' ordS_take (i := 8) (oi := { dst := some 42, op := Op.load 3 (Operand.tmp 41), type := 3, pos := _, after := #[{ on := 7, ground := Ground.data }, { on := 4, ground := Ground.guard }], guard := some (4, false) }) (v := _) rfl (by kernel_rfl) (by kernel_rfl) (by kernel_rfl) (by kernel_rfl) (fun _ _ _ h => h) (by assumption) (Or.inl ⟨by rfl, ?hy8⟩) (fun _ => rfl) ?rest8
             case hy8 => (intro w hSw; (try dsimp only at hSw); go_simp; try with_reducible rfl))
          | (refine ordS_take (i := 8) (oi := { dst := some 42, op := Op.load 3 (Operand.tmp 41), type := 3, pos := _, after := #[{ on := 7, ground := Ground.data }, { on := 4, ground := Ground.guard }], guard := some (4, false) }) (v := undef) rfl (by kernel_rfl) (by kernel_rfl) (by kernel_rfl) (by kernel_rfl) (fun _ _ _ h => h) (by assumption) (Or.inr ⟨by rfl, rfl⟩) (fun _ => rfl) ?_)
        try simp only [Act.put, List.setIfInBounds_toArray, List.set_cons_zero, List.set_cons_succ]
        first
          | (refine' ordS_take (i := 9) (oi := { dst := some 43, op := Op.load 3 (Operand.tmp 7), type := 3, pos := _, after := #[{ on := 4, ground := Ground.guard }], guard := some (4, false) }) (v := _) rfl (by kernel_rfl) (by kernel_rfl) (by kernel_rfl) (by kernel_rfl) (fun _ _ _ h => h) (by assumption) (Or.inl ⟨by rfl, ?hy9⟩) (fun _ => rfl) ?rest9
             case hy9 => (intro w hSw; (try dsimp only at hSw); go_simp; try with_reducible rfl))
          | (refine ordS_take (i := 9) (oi := { dst := some 43, op := Op.load 3 (Operand.tmp 7), type := 3, pos := _, after := #[{ on := 4, ground := Ground.guard }], guard := some (4, false) }) (v := undef) rfl (by kernel_rfl) (by kernel_rfl) (by kernel_rfl) (by kernel_rfl) (fun _ _ _ h => h) (by assumption) (Or.inr ⟨by rfl, rfl⟩) (fun _ => rfl) ?_)
        try simp only [Act.put, List.setIfInBounds_toArray, List.set_cons_zero, List.set_cons_succ]
        first
          | (refine' ordS_take (i := 10) (oi := { dst := some 44, op := Op.fieldAddr 25 (Operand.tmp 4) 2, type := 0, pos := _, after := #[{ on := 4, ground := Ground.guard }], guard := some (4, false) }) (v := _) rfl (by kernel_rfl) (by kernel_rfl) (by kernel_rfl) (by kernel_rfl) (fun _ _ _ h => h) (by assumption) (Or.inl ⟨by rfl, ?hy10⟩) (fun _ => rfl) ?rest10
             case hy10 => (intro w hSw; (try dsimp only at hSw); go_simp; try with_reducible rfl))
          | (refine ordS_take (i := 10) (oi := { dst := some 44, op := Op.fieldAddr 25 (Operand.tmp 4) 2, type := 0, pos := _, after := #[{ on := 4, ground := Ground.guard }], guard := some (4, false) }) (v := undef) rfl (by kernel_rfl) (by kernel_rfl) (by kernel_rfl) (by kernel_rfl) (fun _ _ _ h => h) (by assumption) (Or.inr ⟨by rfl, rfl⟩) (fun _ => rfl) ?_)
        try simp only [Act.put, List.setIfInBounds_toArray, List.set_cons_zero, List.set_cons_succ]
        first
          | (refine' ordS_take (i := 11) (oi := { dst := some 45, op := Op.load 3 (Operand.tmp 44), type := 3, pos := _, after := #[{ on := 10, ground := Ground.data }, { on := 4, ground := Ground.guard }], guard := some (4, false) }) (v := _) rfl (by kernel_rfl) (by kernel_rfl) (by kernel_rfl) (by kernel_rfl) (fun _ _ _ h => h) (by assumption) (Or.inl ⟨by rfl, ?hy11⟩) (fun _ => rfl) ?rest11
             case hy11 => (intro w hSw; (try dsimp only at hSw); go_simp; try with_reducible rfl))
          | (refine ordS_take (i := 11) (oi := { dst := some 45, op := Op.load 3 (Operand.tmp 44), type := 3, pos := _, after := #[{ on := 10, ground := Ground.data }, { on := 4, ground := Ground.guard }], guard := some (4, false) }) (v := undef) rfl (by kernel_rfl) (by kernel_rfl) (by kernel_rfl) (by kernel_rfl) (fun _ _ _ h => h) (by assumption) (Or.inr ⟨by rfl, rfl⟩) (fun _ => rfl) ?_)
        try simp only [Act.put, List.setIfInBounds_toArray, List.set_cons_zero, List.set_cons_succ]
        first
          | (refine' ordS_take (i := 12) (oi := { dst := some 46, op := Op.binOp BinOp.rem 3 (Operand.tmp 43) (Operand.tmp 45) 3, type := 3, pos := _, after := #[{ on := 9, ground := Ground.data }, { on := 11, ground := Ground.data }, { on := 4, ground := Ground.guard }], guard := some (4, false) }) (v := _) rfl (by kernel_rfl) (by kernel_rfl) (by kernel_rfl) (by kernel_rfl) (fun _ _ _ h => h) (by assumption) (Or.inl ⟨by rfl, ?hy12⟩) (fun _ => rfl) ?rest12
             case hy12 => (intro w hSw; (try dsimp only at hSw); go_simp; try with_reducible rfl))
          | (refine ordS_take (i := 12) (oi := { dst := some 46, op := Op.binOp BinOp.rem 3 (Operand.tmp 43) (Operand.tmp 45) 3, type := 3, pos := _, after := #[{ on := 9, ground := Ground.data }, { on := 11, ground := Ground.data }, { on := 4, ground := Ground.guard }], guard := some (4, false) }) (v := undef) rfl (by kernel_rfl) (by kernel_rfl) (by kernel_rfl) (by kernel_rfl) (fun _ _ _ h => h) (by assumption) (Or.inr ⟨by rfl, rfl⟩) (fun _ => rfl) ?_)
        try simp only [Act.put, List.setIfInBounds_toArray, List.set_cons_zero, List.set_cons_succ]
        first
          | (refine' ordS_take (i := 13) (oi := { dst := some 47, op := Op.binOp BinOp.add 3 (Operand.tmp 42) (Operand.tmp 46) 3, type := 3, pos := _, after := #[{ on := 8, ground := Ground.data }, { on := 12, ground := Ground.data }, { on := 4, ground := Ground.guard }], guard := some (4, false) }) (v := _) rfl (by kernel_rfl) (by kernel_rfl) (by kernel_rfl) (by kernel_rfl) (fun _ _ _ h => h) (by assumption) (Or.inl ⟨by rfl, ?hy13⟩) (fun _ => rfl) ?rest13
             case hy13 => (intro w hSw; (try dsimp only at hSw); go_simp; try with_reducible rfl))
          | (refine ordS_take (i := 13) (oi := { dst := some 47, op := Op.binOp BinOp.add 3 (Operand.tmp 42) (Operand.tmp 46) 3, type := 3, pos := _, after := #[{ on := 8, ground := Ground.data }, { on := 12, ground := Ground.data }, { on := 4, ground := Ground.guard }], guard := some (4, false) }) (v := undef) rfl (by kernel_rfl) (by kernel_rfl) (by kernel_rfl) (by kernel_rfl) (fun _ _ _ h => h) (by assumption) (Or.inr ⟨by rfl, rfl⟩) (fun _ => rfl) ?_)
        try simp only [Act.put, List.setIfInBounds_toArray, List.set_cons_zero, List.set_cons_succ]
        first
          | (refine' ordS_take (i := 14) (oi := { dst := some 48, op := Op.binOp BinOp.neq 3 (Operand.tmp 40) (Operand.tmp 47) 3, type := 4, pos := _, after := #[{ on := 6, ground := Ground.data }, { on := 13, ground := Ground.data }, { on := 4, ground := Ground.guard }], guard := some (4, false) }) (v := _) rfl (by kernel_rfl) (by kernel_rfl) (by kernel_rfl) (by kernel_rfl) (fun _ _ _ h => h) (by assumption) (Or.inl ⟨by rfl, ?hy14⟩) (fun _ => rfl) ?rest14
             case hy14 => (intro w hSw; (try dsimp only at hSw); go_simp; try with_reducible rfl))
          | (refine ordS_take (i := 14) (oi := { dst := some 48, op := Op.binOp BinOp.neq 3 (Operand.tmp 40) (Operand.tmp 47) 3, type := 4, pos := _, after := #[{ on := 6, ground := Ground.data }, { on := 13, ground := Ground.data }, { on := 4, ground := Ground.guard }], guard := some (4, false) }) (v := undef) rfl (by kernel_rfl) (by kernel_rfl) (by kernel_rfl) (by kernel_rfl) (fun _ _ _ h => h) (by assumption) (Or.inr ⟨by rfl, rfl⟩) (fun _ => rfl) ?_)
        try simp only [Act.put, List.setIfInBounds_toArray, List.set_cons_zero, List.set_cons_succ]
        first
          | (refine' ordS_take (i := 15) (oi := { dst := some 49, op := Op.pick (Operand.tmp 38) (Operand.const (Value.bool true)) (Operand.tmp 48), type := 4, pos := _, after := #[{ on := 4, ground := Ground.data }, { on := 14, ground := Ground.data }], guard := none }) (v := _) rfl (by kernel_rfl) (by kernel_rfl) (by kernel_rfl) (by kernel_rfl) (fun _ _ _ h => h) (by assumption) (Or.inl ⟨by rfl, ?hy15⟩) (fun _ => rfl) ?rest15
             case hy15 => (intro w hSw; (try dsimp only at hSw); go_simp; try with_reducible rfl))
          | (refine ordS_take (i := 15) (oi := { dst := some 49, op := Op.pick (Operand.tmp 38) (Operand.const (Value.bool true)) (Operand.tmp 48), type := 4, pos := _, after := #[{ on := 4, ground := Ground.data }, { on := 14, ground := Ground.data }], guard := none }) (v := undef) rfl (by kernel_rfl) (by kernel_rfl) (by kernel_rfl) (by kernel_rfl) (fun _ _ _ h => h) (by assumption) (Or.inr ⟨by rfl, rfl⟩) (fun _ => rfl) ?_)
        try simp only [Act.put, List.setIfInBounds_toArray, List.set_cons_zero, List.set_cons_succ]
        first
          | (refine' ordS_take (i := 16) (oi := { dst := some 50, op := Op.move (Operand.tmp 49), type := 4, pos := _, after := #[{ on := 15, ground := Ground.data }, { on := 4, ground := Ground.chain }], guard := none }) (v := _) rfl (by kernel_rfl) (by kernel_rfl) (by kernel_rfl) (by kernel_rfl) (fun _ _ _ h => h) (by assumption) (Or.inl ⟨by rfl, ?hy16⟩) (fun _ => rfl) ?rest16
             case hy16 => (intro w hSw; (try dsimp only at hSw); go_simp; try with_reducible rfl))
          | (refine ordS_take (i := 16) (oi := { dst := some 50, op := Op.move (Operand.tmp 49), type := 4, pos := _, after := #[{ on := 15, ground := Ground.data }, { on := 4, ground := Ground.chain }], guard := none }) (v := undef) rfl (by kernel_rfl) (by kernel_rfl) (by kernel_rfl) (by kernel_rfl) (fun _ _ _ h => h) (by assumption) (Or.inr ⟨by rfl, rfl⟩) (fun _ => rfl) ?_)
        try simp only [Act.put, List.setIfInBounds_toArray, List.set_cons_zero, List.set_cons_succ]
        first
          | (refine' ordS_take (i := 17) (oi := { dst := some 51, op := Op.fieldAddr 27 (Operand.tmp 10) 1, type := 0, pos := _, after := #[{ on := 16, ground := Ground.guard }], guard := some (16, false) }) (v := _) rfl (by kernel_rfl) (by kernel_rfl) (by kernel_rfl) (by kernel_rfl) (fun _ _ _ h => h) (by assumption) (Or.inl ⟨by rfl, ?hy17⟩) (fun _ => rfl) ?rest17
             case hy17 => (intro w hSw; (try dsimp only at hSw); go_simp; try with_reducible rfl))
          | (refine ordS_take (i := 17) (oi := { dst := some 51, op := Op.fieldAddr 27 (Operand.tmp 10) 1, type := 0, pos := _, after := #[{ on := 16, ground := Ground.guard }], guard := some (16, false) }) (v := undef) rfl (by kernel_rfl) (by kernel_rfl) (by kernel_rfl) (by kernel_rfl) (fun _ _ _ h => h) (by assumption) (Or.inr ⟨by rfl, rfl⟩) (fun _ => rfl) ?_)
        try simp only [Act.put, List.setIfInBounds_toArray, List.set_cons_zero, List.set_cons_succ]
        first
          | (refine' ordS_take (i := 18) (oi := { dst := some 52, op := Op.load 3 (Operand.tmp 51), type := 3, pos := _, after := #[{ on := 17, ground := Ground.data }, { on := 16, ground := Ground.guard }], guard := some (16, false) }) (v := _) rfl (by kernel_rfl) (by kernel_rfl) (by kernel_rfl) (by kernel_rfl) (fun _ _ _ h => h) (by assumption) (Or.inl ⟨by rfl, ?hy18⟩) (fun _ => rfl) ?rest18
             case hy18 => (intro w hSw; (try dsimp only at hSw); go_simp; try with_reducible rfl))
          | (refine ordS_take (i := 18) (oi := { dst := some 52, op := Op.load 3 (Operand.tmp 51), type := 3, pos := _, after := #[{ on := 17, ground := Ground.data }, { on := 16, ground := Ground.guard }], guard := some (16, false) }) (v := undef) rfl (by kernel_rfl) (by kernel_rfl) (by kernel_rfl) (by kernel_rfl) (fun _ _ _ h => h) (by assumption) (Or.inr ⟨by rfl, rfl⟩) (fun _ => rfl) ?_)
        try simp only [Act.put, List.setIfInBounds_toArray, List.set_cons_zero, List.set_cons_succ]
        first
          | (refine' ordS_take (i := 19) (oi := { dst := some 53, op := Op.fieldAddr 25 (Operand.tmp 4) 1, type := 0, pos := _, after := #[{ on := 16, ground := Ground.guard }], guard := some (16, false) }) (v := _) rfl (by kernel_rfl) (by kernel_rfl) (by kernel_rfl) (by kernel_rfl) (fun _ _ _ h => h) (by assumption) (Or.inl ⟨by rfl, ?hy19⟩) (fun _ => rfl) ?rest19
             case hy19 => (intro w hSw; (try dsimp only at hSw); go_simp; try with_reducible rfl))
          | (refine ordS_take (i := 19) (oi := { dst := some 53, op := Op.fieldAddr 25 (Operand.tmp 4) 1, type := 0, pos := _, after := #[{ on := 16, ground := Ground.guard }], guard := some (16, false) }) (v := undef) rfl (by kernel_rfl) (by kernel_rfl) (by kernel_rfl) (by kernel_rfl) (fun _ _ _ h => h) (by assumption) (Or.inr ⟨by rfl, rfl⟩) (fun _ => rfl) ?_)
        try simp only [Act.put, List.setIfInBounds_toArray, List.set_cons_zero, List.set_cons_succ]
        first
          | (refine' ordS_take (i := 20) (oi := { dst := some 54, op := Op.load 3 (Operand.tmp 53), type := 3, pos := _, after := #[{ on := 19, ground := Ground.data }, { on := 16, ground := Ground.guard }], guard := some (16, false) }) (v := _) rfl (by kernel_rfl) (by kernel_rfl) (by kernel_rfl) (by kernel_rfl) (fun _ _ _ h => h) (by assumption) (Or.inl ⟨by rfl, ?hy20⟩) (fun _ => rfl) ?rest20
             case hy20 => (intro w hSw; (try dsimp only at hSw); go_simp; try with_reducible rfl))
          | (refine ordS_take (i := 20) (oi := { dst := some 54, op := Op.load 3 (Operand.tmp 53), type := 3, pos := _, after := #[{ on := 19, ground := Ground.data }, { on := 16, ground := Ground.guard }], guard := some (16, false) }) (v := undef) rfl (by kernel_rfl) (by kernel_rfl) (by kernel_rfl) (by kernel_rfl) (fun _ _ _ h => h) (by assumption) (Or.inr ⟨by rfl, rfl⟩) (fun _ => rfl) ?_)
        try simp only [Act.put, List.setIfInBounds_toArray, List.set_cons_zero, List.set_cons_succ]
        first
          | (refine' ordS_take (i := 21) (oi := { dst := some 55, op := Op.load 3 (Operand.tmp 7), type := 3, pos := _, after := #[{ on := 16, ground := Ground.guard }], guard := some (16, false) }) (v := _) rfl (by kernel_rfl) (by kernel_rfl) (by kernel_rfl) (by kernel_rfl) (fun _ _ _ h => h) (by assumption) (Or.inl ⟨by rfl, ?hy21⟩) (fun _ => rfl) ?rest21
             case hy21 => (intro w hSw; (try dsimp only at hSw); go_simp; try with_reducible rfl))
          | (refine ordS_take (i := 21) (oi := { dst := some 55, op := Op.load 3 (Operand.tmp 7), type := 3, pos := _, after := #[{ on := 16, ground := Ground.guard }], guard := some (16, false) }) (v := undef) rfl (by kernel_rfl) (by kernel_rfl) (by kernel_rfl) (by kernel_rfl) (fun _ _ _ h => h) (by assumption) (Or.inr ⟨by rfl, rfl⟩) (fun _ => rfl) ?_)
        try simp only [Act.put, List.setIfInBounds_toArray, List.set_cons_zero, List.set_cons_succ]
        first
          | (refine' ordS_take (i := 22) (oi := { dst := some 56, op := Op.fieldAddr 25 (Operand.tmp 4) 2, type := 0, pos := _, after := #[{ on := 16, ground := Ground.guard }], guard := some (16, false) }) (v := _) rfl (by kernel_rfl) (by kernel_rfl) (by kernel_rfl) (by kernel_rfl) (fun _ _ _ h => h) (by assumption) (Or.inl ⟨by rfl, ?hy22⟩) (fun _ => rfl) ?rest22
             case hy22 => (intro w hSw; (try dsimp only at hSw); go_simp; try with_reducible rfl))
          | (refine ordS_take (i := 22) (oi := { dst := some 56, op := Op.fieldAddr 25 (Operand.tmp 4) 2, type := 0, pos := _, after := #[{ on := 16, ground := Ground.guard }], guard := some (16, false) }) (v := undef) rfl (by kernel_rfl) (by kernel_rfl) (by kernel_rfl) (by kernel_rfl) (fun _ _ _ h => h) (by assumption) (Or.inr ⟨by rfl, rfl⟩) (fun _ => rfl) ?_)
        try simp only [Act.put, List.setIfInBounds_toArray, List.set_cons_zero, List.set_cons_succ]
        first
          | (refine' ordS_take (i := 23) (oi := { dst := some 57, op := Op.load 3 (Operand.tmp 56), type := 3, pos := _, after := #[{ on := 22, ground := Ground.data }, { on := 16, ground := Ground.guard }], guard := some (16, false) }) (v := _) rfl (by kernel_rfl) (by kernel_rfl) (by kernel_rfl) (by kernel_rfl) (fun _ _ _ h => h) (by assumption) (Or.inl ⟨by rfl, ?hy23⟩) (fun _ => rfl) ?rest23
             case hy23 => (intro w hSw; (try dsimp only at hSw); go_simp; try with_reducible rfl))
          | (refine ordS_take (i := 23) (oi := { dst := some 57, op := Op.load 3 (Operand.tmp 56), type := 3, pos := _, after := #[{ on := 22, ground := Ground.data }, { on := 16, ground := Ground.guard }], guard := some (16, false) }) (v := undef) rfl (by kernel_rfl) (by kernel_rfl) (by kernel_rfl) (by kernel_rfl) (fun _ _ _ h => h) (by assumption) (Or.inr ⟨by rfl, rfl⟩) (fun _ => rfl) ?_)
        try simp only [Act.put, List.setIfInBounds_toArray, List.set_cons_zero, List.set_cons_succ]
        first
          | (refine' ordS_take (i := 24) (oi := { dst := some 58, op := Op.binOp BinOp.quo 3 (Operand.tmp 55) (Operand.tmp 57) 3, type := 3, pos := _, after := #[{ on := 21, ground := Ground.data }, { on := 23, ground := Ground.data }, { on := 16, ground := Ground.guard }], guard := some (16, false) }) (v := _) rfl (by kernel_rfl) (by kernel_rfl) (by kernel_rfl) (by kernel_rfl) (fun _ _ _ h => h) (by assumption) (Or.inl ⟨by rfl, ?hy24⟩) (fun _ => rfl) ?rest24
             case hy24 => (intro w hSw; (try dsimp only at hSw); go_simp; try with_reducible rfl))
          | (refine ordS_take (i := 24) (oi := { dst := some 58, op := Op.binOp BinOp.quo 3 (Operand.tmp 55) (Operand.tmp 57) 3, type := 3, pos := _, after := #[{ on := 21, ground := Ground.data }, { on := 23, ground := Ground.data }, { on := 16, ground := Ground.guard }], guard := some (16, false) }) (v := undef) rfl (by kernel_rfl) (by kernel_rfl) (by kernel_rfl) (by kernel_rfl) (fun _ _ _ h => h) (by assumption) (Or.inr ⟨by rfl, rfl⟩) (fun _ => rfl) ?_)
        try simp only [Act.put, List.setIfInBounds_toArray, List.set_cons_zero, List.set_cons_succ]
        first
          | (refine' ordS_take (i := 25) (oi := { dst := some 59, op := Op.binOp BinOp.add 3 (Operand.tmp 54) (Operand.tmp 58) 3, type := 3, pos := _, after := #[{ on := 20, ground := Ground.data }, { on := 24, ground := Ground.data }, { on := 16, ground := Ground.guard }], guard := some (16, false) }) (v := _) rfl (by kernel_rfl) (by kernel_rfl) (by kernel_rfl) (by kernel_rfl) (fun _ _ _ h => h) (by assumption) (Or.inl ⟨by rfl, ?hy25⟩) (fun _ => rfl) ?rest25
             case hy25 => (intro w hSw; (try dsimp only at hSw); go_simp; try with_reducible rfl))
          | (refine ordS_take (i := 25) (oi := { dst := some 59, op := Op.binOp BinOp.add 3 (Operand.tmp 54) (Operand.tmp 58) 3, type := 3, pos := _, after := #[{ on := 20, ground := Ground.data }, { on := 24, ground := Ground.data }, { on := 16, ground := Ground.guard }], guard := some (16, false) }) (v := undef) rfl (by kernel_rfl) (by kernel_rfl) (by kernel_rfl) (by kernel_rfl) (fun _ _ _ h => h) (by assumption) (Or.inr ⟨by rfl, rfl⟩) (fun _ => rfl) ?_)
        try simp only [Act.put, List.setIfInBounds_toArray, List.set_cons_zero, List.set_cons_succ]
        first
          | (refine' ordS_take (i := 26) (oi := { dst := some 60, op := Op.binOp BinOp.neq 3 (Operand.tmp 52) (Operand.tmp 59) 3, type := 4, pos := _, after := #[{ on := 18, ground := Ground.data }, { on := 25, ground := Ground.data }, { on := 16, ground := Ground.guard }], guard := some (16, false) }) (v := _) rfl (by kernel_rfl) (by kernel_rfl) (by kernel_rfl) (by kernel_rfl) (fun _ _ _ h => h) (by assumption) (Or.inl ⟨by rfl, ?hy26⟩) (fun _ => rfl) ?rest26
             case hy26 => (intro w hSw; (try dsimp only at hSw); go_simp; try with_reducible rfl))
          | (refine ordS_take (i := 26) (oi := { dst := some 60, op := Op.binOp BinOp.neq 3 (Operand.tmp 52) (Operand.tmp 59) 3, type := 4, pos := _, after := #[{ on := 18, ground := Ground.data }, { on := 25, ground := Ground.data }, { on := 16, ground := Ground.guard }], guard := some (16, false) }) (v := undef) rfl (by kernel_rfl) (by kernel_rfl) (by kernel_rfl) (by kernel_rfl) (fun _ _ _ h => h) (by assumption) (Or.inr ⟨by rfl, rfl⟩) (fun _ => rfl) ?_)
        try simp only [Act.put, List.setIfInBounds_toArray, List.set_cons_zero, List.set_cons_succ]
        first
          | (refine' ordS_take (i := 27) (oi := { dst := some 61, op := Op.pick (Operand.tmp 50) (Operand.const (Value.bool true)) (Operand.tmp 60), type := 4, pos := _, after := #[{ on := 16, ground := Ground.data }, { on := 26, ground := Ground.data }], guard := none }) (v := _) rfl (by kernel_rfl) (by kernel_rfl) (by kernel_rfl) (by kernel_rfl) (fun _ _ _ h => h) (by assumption) (Or.inl ⟨by rfl, ?hy27⟩) (fun _ => rfl) ?rest27
             case hy27 => (intro w hSw; (try dsimp only at hSw); go_simp; try with_reducible rfl))
          | (refine ordS_take (i := 27) (oi := { dst := some 61, op := Op.pick (Operand.tmp 50) (Operand.const (Value.bool true)) (Operand.tmp 60), type := 4, pos := _, after := #[{ on := 16, ground := Ground.data }, { on := 26, ground := Ground.data }], guard := none }) (v := undef) rfl (by kernel_rfl) (by kernel_rfl) (by kernel_rfl) (by kernel_rfl) (fun _ _ _ h => h) (by assumption) (Or.inr ⟨by rfl, rfl⟩) (fun _ => rfl) ?_)
        try simp only [Act.put, List.setIfInBounds_toArray, List.set_cons_zero, List.set_cons_succ]
        refine ordS_done (by kernel_rfl) ?_
        have c3 := h3.cell
        have f3 := h3.frozen
        replace f3 := frozen_later hk3 c3 f3
        replace c3 := cell_later hk3 c3
        clear x0 x1 x2 x3 p0 p1 d0 d1 c1 hS3
        gi_wp2
        have hkk : KeptB (m + 1 + 1) W0.heap.size W2 (W3.setCell ⟨w.heap.size + 1 + 1 + 1, 0, none⟩ (.bool false)) :=
          (KeptB.of_below hk3).trans (KeptB.set (k := w.heap.size + 1 + 1 + 1) _ (by omega) (by omega))
        exact ⟨hkk, BadB.last (by rw [hh]; simp)⟩
      case' true =>
        have hrb := rightB_iff.1 (hasB_iff.1 hh).1
        obtain ⟨r1, r2, r3, r4, r5, r6, r7, r8⟩ := hrb
        obtain ⟨_, e1, e2, e3, e4⟩ := hasB_iff.1 hh
        have hU : 0 < U := by omega
        have hU0 : (U == 0) = false := by simp; omega
        have m1 := Int.emod_nonneg k (show U ≠ 0 by omega)
        have m2 := Int.emod_lt_of_pos k hU
        have m3 := Int.ediv_nonneg hl0 (show 0 ≤ U by omega)
        have m4 : k / U ≤ k := Int.ediv_le_self U hl0
        clear e1 e2 e3 e4
        have hU1 : ¬ U = 0 := by omega
        have t1 : k.tmod U = k % U := Int.tmod_eq_emod_of_nonneg hl0
        have t2 : k.tdiv U = k / U := Int.tdiv_eq_ediv_of_nonneg hl0
        have t5 : IntKind.i64.wrap (k / U) = k / U := IntWalk.i64_in _ (by omega)
        have t3 : IntKind.i64.wrap (X + k % U) = X + k % U := IntWalk.i64_in _ (by omega)
        have t4 : IntKind.i64.wrap (Y + k / U) = Y + k / U := IntWalk.i64_in _ (by omega)
        generalize hq1 : X + k % U = q1 at t3
        generalize hq2 : Y + k / U = q2 at t4
        gi_wp2_with fail
        refine ordS_begin (S := (fun w' => w'.cell? ⟨w.heap.size + 1, 0, none⟩ = some (.int .i64 X) ∧ w'.cell? ⟨w.heap.size + 1, 1, none⟩ = some (.int .i64 Y) ∧ w'.cell? ⟨w.heap.size + 1, 2, none⟩ = some (.int .i64 U) ∧ w'.cell? ⟨w.heap.size + 1, 3, none⟩ = some (.int .i64 V) ∧ w'.cell? ⟨Bx, 0, none⟩ = some (.int .i64 a) ∧ w'.cell? ⟨Bx, 1, none⟩ = some (.int .i64 b) ∧ w'.cell? ⟨m, 0, none⟩ = some (.int .i64 k))) (by kernel_rfl) ⟨cell_later (bl_dr (bl0 _)) x0, cell_later (bl_dr (bl0 _)) x1, cell_later (bl_dr (bl0 _)) x2, cell_later (bl_dr (bl0 _)) x3, cell_later (bl_dr (bl0 _)) d0, cell_later (bl_dr (bl0 _)) d1, cell_later (bl_dr (bl0 _)) c1⟩ (fun hH => ?_)
        first
          | (refine' ordS_take (i := 0) (oi := { dst := some 34, op := Op.load 25 (Operand.tmp 4), type := 25, pos := _, after := #[], guard := none }) (v := _) rfl (by kernel_rfl) (by kernel_rfl) (by kernel_rfl) (by kernel_rfl) (fun _ _ _ h => h) (by assumption) (Or.inl ⟨by rfl, ?hy28⟩) (fun _ => rfl) ?rest28
             case hy28 => (intro w hSw; (try dsimp only at hSw); go_simp; try with_reducible rfl))
          | (refine ordS_take (i := 0) (oi := { dst := some 34, op := Op.load 25 (Operand.tmp 4), type := 25, pos := _, after := #[], guard := none }) (v := undef) rfl (by kernel_rfl) (by kernel_rfl) (by kernel_rfl) (by kernel_rfl) (fun _ _ _ h => h) (by assumption) (Or.inr ⟨by rfl, rfl⟩) (fun _ => rfl) ?_)
        try simp only [Act.put, List.setIfInBounds_toArray, List.set_cons_zero, List.set_cons_succ]
        first
          | (refine' ordS_take (i := 1) (oi := { dst := some 35, op := Op.load 27 (Operand.tmp 10), type := 27, pos := _, after := #[], guard := none }) (v := _) rfl (by kernel_rfl) (by kernel_rfl) (by kernel_rfl) (by kernel_rfl) (fun _ _ _ h => h) (by assumption) (Or.inl ⟨by rfl, ?hy29⟩) (fun _ => rfl) ?rest29
             case hy29 => (intro w hSw; (try dsimp only at hSw); go_simp; try with_reducible rfl))
          | (refine ordS_take (i := 1) (oi := { dst := some 35, op := Op.load 27 (Operand.tmp 10), type := 27, pos := _, after := #[], guard := none }) (v := undef) rfl (by kernel_rfl) (by kernel_rfl) (by kernel_rfl) (by kernel_rfl) (fun _ _ _ h => h) (by assumption) (Or.inr ⟨by rfl, rfl⟩) (fun _ => rfl) ?_)
        try simp only [Act.put, List.setIfInBounds_toArray, List.set_cons_zero, List.set_cons_succ]
        refine ordS_one (i := 2) (o := { dst := some 36, op := Op.call { callee := Callee.value (Operand.func 8), args := #[Operand.tmp 34, Operand.tmp 35], argTypes := #[25, 27] }, type := 4, pos := _, after := #[{ on := 0, ground := Ground.data }, { on := 1, ground := Ground.data }], guard := none }) (by kernel_rfl) rfl (by rfl) (fun K hK => ?_)
        go_simp
        refine ⟨trivial, (CallsIn.inRound l (callsIn_wide.2 (rhas_any _ _ _ _ _ _ _))).mono ?_⟩
        rintro e W3 ⟨rfl, hb⟩
        have hk3 := bl_tr (bl_dr (bl0 _)) hb
        clear hb
        rw [hh]
        have hi3 := hI.below hk3
        have hS3 : (fun w' => w'.cell? ⟨w.heap.size + 1, 0, none⟩ = some (.int .i64 X) ∧ w'.cell? ⟨w.heap.size + 1, 1, none⟩ = some (.int .i64 Y) ∧ w'.cell? ⟨w.heap.size + 1, 2, none⟩ = some (.int .i64 U) ∧ w'.cell? ⟨w.heap.size + 1, 3, none⟩ = some (.int .i64 V) ∧ w'.cell? ⟨Bx, 0, none⟩ = some (.int .i64 a) ∧ w'.cell? ⟨Bx, 1, none⟩ = some (.int .i64 b) ∧ w'.cell? ⟨m, 0, none⟩ = some (.int .i64 k)) W3 := ⟨cell_later hk3 x0, cell_later hk3 x1, cell_later hk3 x2, cell_later hk3 x3, cell_later hk3 d0, cell_later hk3 d1, cell_later hk3 c1⟩
        refine hK _ _ hS3 ?_
        clear hK K hH
        try simp only [Act.put, List.setIfInBounds_toArray, List.set_cons_zero, List.set_cons_succ]
        first
          | (refine' ordS_take (i := 3) (oi := { dst := some 37, op := Op.unOp UnOp.not 4 (Operand.tmp 36), type := 4, pos := _, after := #[{ on := 2, ground := Ground.data }], guard := none }) (v := _) rfl (by kernel_rfl) (by kernel_rfl) (by kernel_rfl) (by kernel_rfl) (fun _ _ _ h => h) (by assumption) (Or.inl ⟨by rfl, ?hy30⟩) (fun _ => rfl) ?rest30
             case hy30 => (intro w hSw; (try dsimp only at hSw); go_simp; try with_reducible rfl))
          | (refine ordS_take (i := 3) (oi := { dst := some 37, op := Op.unOp UnOp.not 4 (Operand.tmp 36), type := 4, pos := _, after := #[{ on := 2, ground := Ground.data }], guard := none }) (v := undef) rfl (by kernel_rfl) (by kernel_rfl) (by kernel_rfl) (by kernel_rfl) (fun _ _ _ h => h) (by assumption) (Or.inr ⟨by rfl, rfl⟩) (fun _ => rfl) ?_)
        try simp only [Act.put, List.setIfInBounds_toArray, List.set_cons_zero, List.set_cons_succ]
        first
          | (refine' ordS_take (i := 4) (oi := { dst := some 38, op := Op.move (Operand.tmp 37), type := 4, pos := _, after := #[{ on := 3, ground := Ground.data }, { on := 2, ground := Ground.chain }], guard := none }) (v := _) rfl (by kernel_rfl) (by kernel_rfl) (by kernel_rfl) (by kernel_rfl) (fun _ _ _ h => h) (by assumption) (Or.inl ⟨by rfl, ?hy31⟩) (fun _ => rfl) ?rest31
             case hy31 => (intro w hSw; (try dsimp only at hSw); go_simp; try with_reducible rfl))
          | (refine ordS_take (i := 4) (oi := { dst := some 38, op := Op.move (Operand.tmp 37), type := 4, pos := _, after := #[{ on := 3, ground := Ground.data }, { on := 2, ground := Ground.chain }], guard := none }) (v := undef) rfl (by kernel_rfl) (by kernel_rfl) (by kernel_rfl) (by kernel_rfl) (fun _ _ _ h => h) (by assumption) (Or.inr ⟨by rfl, rfl⟩) (fun _ => rfl) ?_)
        try simp only [Act.put, List.setIfInBounds_toArray, List.set_cons_zero, List.set_cons_succ]
        first
          | (refine' ordS_take (i := 5) (oi := { dst := some 39, op := Op.fieldAddr 27 (Operand.tmp 10) 0, type := 0, pos := _, after := #[{ on := 4, ground := Ground.guard }], guard := some (4, false) }) (v := _) rfl (by kernel_rfl) (by kernel_rfl) (by kernel_rfl) (by kernel_rfl) (fun _ _ _ h => h) (by assumption) (Or.inl ⟨by rfl, ?hy32⟩) (fun _ => rfl) ?rest32
             case hy32 => (intro w hSw; (try dsimp only at hSw); go_simp; try with_reducible rfl))
          | (refine ordS_take (i := 5) (oi := { dst := some 39, op := Op.fieldAddr 27 (Operand.tmp 10) 0, type := 0, pos := _, after := #[{ on := 4, ground := Ground.guard }], guard := some (4, false) }) (v := undef) rfl (by kernel_rfl) (by kernel_rfl) (by kernel_rfl) (by kernel_rfl) (fun _ _ _ h => h) (by assumption) (Or.inr ⟨by rfl, rfl⟩) (fun _ => rfl) ?_)
        try simp only [Act.put, List.setIfInBounds_toArray, List.set_cons_zero, List.set_cons_succ]
        first
          | (refine' ordS_take (i := 6) (oi := { dst := some 40, op := Op.load 3 (Operand.tmp 39), type := 3, pos := _, after := #[{ on := 5, ground := Ground.data }, { on := 4, ground := Ground.guard }], guard := some (4, false) }) (v := _) rfl (by kernel_rfl) (by kernel_rfl) (by kernel_rfl) (by kernel_rfl) (fun _ _ _ h => h) (by assumption) (Or.inl ⟨by rfl, ?hy33⟩) (fun _ => rfl) ?rest33
             case hy33 => (intro w hSw; (try dsimp only at hSw); go_simp; try with_reducible rfl))
          | (refine ordS_take (i := 6) (oi := { dst := some 40, op := Op.load 3 (Operand.tmp 39), type := 3, pos := _, after := #[{ on := 5, ground := Ground.data }, { on := 4, ground := Ground.guard }], guard := some (4, false) }) (v := undef) rfl (by kernel_rfl) (by kernel_rfl) (by kernel_rfl) (by kernel_rfl) (fun _ _ _ h => h) (by assumption) (Or.inr ⟨by rfl, rfl⟩) (fun _ => rfl) ?_)
        try simp only [Act.put, List.setIfInBounds_toArray, List.set_cons_zero, List.set_cons_succ]
        first
          | (refine' ordS_take (i := 7) (oi := { dst := some 41, op := Op.fieldAddr 25 (Operand.tmp 4) 0, type := 0, pos := _, after := #[{ on := 4, ground := Ground.guard }], guard := some (4, false) }) (v := _) rfl (by kernel_rfl) (by kernel_rfl) (by kernel_rfl) (by kernel_rfl) (fun _ _ _ h => h) (by assumption) (Or.inl ⟨by rfl, ?hy34⟩) (fun _ => rfl) ?rest34
             case hy34 => (intro w hSw; (try dsimp only at hSw); go_simp; try with_reducible rfl))
          | (refine ordS_take (i := 7) (oi := { dst := some 41, op := Op.fieldAddr 25 (Operand.tmp 4) 0, type := 0, pos := _, after := #[{ on := 4, ground := Ground.guard }], guard := some (4, false) }) (v := undef) rfl (by kernel_rfl) (by kernel_rfl) (by kernel_rfl) (by kernel_rfl) (fun _ _ _ h => h) (by assumption) (Or.inr ⟨by rfl, rfl⟩) (fun _ => rfl) ?_)
        try simp only [Act.put, List.setIfInBounds_toArray, List.set_cons_zero, List.set_cons_succ]
        first
          | (refine' ordS_take (i := 8) (oi := { dst := some 42, op := Op.load 3 (Operand.tmp 41), type := 3, pos := _, after := #[{ on := 7, ground := Ground.data }, { on := 4, ground := Ground.guard }], guard := some (4, false) }) (v := _) rfl (by kernel_rfl) (by kernel_rfl) (by kernel_rfl) (by kernel_rfl) (fun _ _ _ h => h) (by assumption) (Or.inl ⟨by rfl, ?hy35⟩) (fun _ => rfl) ?rest35
             case hy35 => (intro w hSw; (try dsimp only at hSw); go_simp; try with_reducible rfl))
          | (refine ordS_take (i := 8) (oi := { dst := some 42, op := Op.load 3 (Operand.tmp 41), type := 3, pos := _, after := #[{ on := 7, ground := Ground.data }, { on := 4, ground := Ground.guard }], guard := some (4, false) }) (v := undef) rfl (by kernel_rfl) (by kernel_rfl) (by kernel_rfl) (by kernel_rfl) (fun _ _ _ h => h) (by assumption) (Or.inr ⟨by rfl, rfl⟩) (fun _ => rfl) ?_)
        try simp only [Act.put, List.setIfInBounds_toArray, List.set_cons_zero, List.set_cons_succ]
        first
          | (refine' ordS_take (i := 9) (oi := { dst := some 43, op := Op.load 3 (Operand.tmp 7), type := 3, pos := _, after := #[{ on := 4, ground := Ground.guard }], guard := some (4, false) }) (v := _) rfl (by kernel_rfl) (by kernel_rfl) (by kernel_rfl) (by kernel_rfl) (fun _ _ _ h => h) (by assumption) (Or.inl ⟨by rfl, ?hy36⟩) (fun _ => rfl) ?rest36
             case hy36 => (intro w hSw; (try dsimp only at hSw); go_simp; try with_reducible rfl))
          | (refine ordS_take (i := 9) (oi := { dst := some 43, op := Op.load 3 (Operand.tmp 7), type := 3, pos := _, after := #[{ on := 4, ground := Ground.guard }], guard := some (4, false) }) (v := undef) rfl (by kernel_rfl) (by kernel_rfl) (by kernel_rfl) (by kernel_rfl) (fun _ _ _ h => h) (by assumption) (Or.inr ⟨by rfl, rfl⟩) (fun _ => rfl) ?_)
        try simp only [Act.put, List.setIfInBounds_toArray, List.set_cons_zero, List.set_cons_succ]
        first
          | (refine' ordS_take (i := 10) (oi := { dst := some 44, op := Op.fieldAddr 25 (Operand.tmp 4) 2, type := 0, pos := _, after := #[{ on := 4, ground := Ground.guard }], guard := some (4, false) }) (v := _) rfl (by kernel_rfl) (by kernel_rfl) (by kernel_rfl) (by kernel_rfl) (fun _ _ _ h => h) (by assumption) (Or.inl ⟨by rfl, ?hy37⟩) (fun _ => rfl) ?rest37
             case hy37 => (intro w hSw; (try dsimp only at hSw); go_simp; try with_reducible rfl))
          | (refine ordS_take (i := 10) (oi := { dst := some 44, op := Op.fieldAddr 25 (Operand.tmp 4) 2, type := 0, pos := _, after := #[{ on := 4, ground := Ground.guard }], guard := some (4, false) }) (v := undef) rfl (by kernel_rfl) (by kernel_rfl) (by kernel_rfl) (by kernel_rfl) (fun _ _ _ h => h) (by assumption) (Or.inr ⟨by rfl, rfl⟩) (fun _ => rfl) ?_)
        try simp only [Act.put, List.setIfInBounds_toArray, List.set_cons_zero, List.set_cons_succ]
        first
          | (refine' ordS_take (i := 11) (oi := { dst := some 45, op := Op.load 3 (Operand.tmp 44), type := 3, pos := _, after := #[{ on := 10, ground := Ground.data }, { on := 4, ground := Ground.guard }], guard := some (4, false) }) (v := _) rfl (by kernel_rfl) (by kernel_rfl) (by kernel_rfl) (by kernel_rfl) (fun _ _ _ h => h) (by assumption) (Or.inl ⟨by rfl, ?hy38⟩) (fun _ => rfl) ?rest38
             case hy38 => (intro w hSw; (try dsimp only at hSw); go_simp; try with_reducible rfl))
          | (refine ordS_take (i := 11) (oi := { dst := some 45, op := Op.load 3 (Operand.tmp 44), type := 3, pos := _, after := #[{ on := 10, ground := Ground.data }, { on := 4, ground := Ground.guard }], guard := some (4, false) }) (v := undef) rfl (by kernel_rfl) (by kernel_rfl) (by kernel_rfl) (by kernel_rfl) (fun _ _ _ h => h) (by assumption) (Or.inr ⟨by rfl, rfl⟩) (fun _ => rfl) ?_)
        try simp only [Act.put, List.setIfInBounds_toArray, List.set_cons_zero, List.set_cons_succ]
        first
          | (refine' ordS_take (i := 12) (oi := { dst := some 46, op := Op.binOp BinOp.rem 3 (Operand.tmp 43) (Operand.tmp 45) 3, type := 3, pos := _, after := #[{ on := 9, ground := Ground.data }, { on := 11, ground := Ground.data }, { on := 4, ground := Ground.guard }], guard := some (4, false) }) (v := _) rfl (by kernel_rfl) (by kernel_rfl) (by kernel_rfl) (by kernel_rfl) (fun _ _ _ h => h) (by assumption) (Or.inl ⟨by rfl, ?hy39⟩) (fun _ => rfl) ?rest39
             case hy39 => (intro w hSw; (try dsimp only at hSw); go_simp; try with_reducible rfl))
          | (refine ordS_take (i := 12) (oi := { dst := some 46, op := Op.binOp BinOp.rem 3 (Operand.tmp 43) (Operand.tmp 45) 3, type := 3, pos := _, after := #[{ on := 9, ground := Ground.data }, { on := 11, ground := Ground.data }, { on := 4, ground := Ground.guard }], guard := some (4, false) }) (v := undef) rfl (by kernel_rfl) (by kernel_rfl) (by kernel_rfl) (by kernel_rfl) (fun _ _ _ h => h) (by assumption) (Or.inr ⟨by rfl, rfl⟩) (fun _ => rfl) ?_)
        try simp only [Act.put, List.setIfInBounds_toArray, List.set_cons_zero, List.set_cons_succ]
        first
          | (refine' ordS_take (i := 13) (oi := { dst := some 47, op := Op.binOp BinOp.add 3 (Operand.tmp 42) (Operand.tmp 46) 3, type := 3, pos := _, after := #[{ on := 8, ground := Ground.data }, { on := 12, ground := Ground.data }, { on := 4, ground := Ground.guard }], guard := some (4, false) }) (v := _) rfl (by kernel_rfl) (by kernel_rfl) (by kernel_rfl) (by kernel_rfl) (fun _ _ _ h => h) (by assumption) (Or.inl ⟨by rfl, ?hy40⟩) (fun _ => rfl) ?rest40
             case hy40 => (intro w hSw; (try dsimp only at hSw); go_simp; try with_reducible rfl))
          | (refine ordS_take (i := 13) (oi := { dst := some 47, op := Op.binOp BinOp.add 3 (Operand.tmp 42) (Operand.tmp 46) 3, type := 3, pos := _, after := #[{ on := 8, ground := Ground.data }, { on := 12, ground := Ground.data }, { on := 4, ground := Ground.guard }], guard := some (4, false) }) (v := undef) rfl (by kernel_rfl) (by kernel_rfl) (by kernel_rfl) (by kernel_rfl) (fun _ _ _ h => h) (by assumption) (Or.inr ⟨by rfl, rfl⟩) (fun _ => rfl) ?_)
        try simp only [Act.put, List.setIfInBounds_toArray, List.set_cons_zero, List.set_cons_succ]
        by_cases ea : a = q1
        case' neg =>
          have ea1 : (a == q1) = false := by simp [ea]
          have ea2 : (a != q1) = true := by simp [ea]
          first
            | (refine' ordS_take (i := 14) (oi := { dst := some 48, op := Op.binOp BinOp.neq 3 (Operand.tmp 40) (Operand.tmp 47) 3, type := 4, pos := _, after := #[{ on := 6, ground := Ground.data }, { on := 13, ground := Ground.data }, { on := 4, ground := Ground.guard }], guard := some (4, false) }) (v := _) rfl (by kernel_rfl) (by kernel_rfl) (by kernel_rfl) (by kernel_rfl) (fun _ _ _ h => h) (by assumption) (Or.inl ⟨by rfl, ?hy41⟩) (fun _ => rfl) ?rest41
               case hy41 => (intro w hSw; (try dsimp only at hSw); go_simp; try with_reducible rfl))
            | (refine ordS_take (i := 14) (oi := { dst := some 48, op := Op.binOp BinOp.neq 3 (Operand.tmp 40) (Operand.tmp 47) 3, type := 4, pos := _, after := #[{ on := 6, ground := Ground.data }, { on := 13, ground := Ground.data }, { on := 4, ground := Ground.guard }], guard := some (4, false) }) (v := undef) rfl (by kernel_rfl) (by kernel_rfl) (by kernel_rfl) (by kernel_rfl) (fun _ _ _ h => h) (by assumption) (Or.inr ⟨by rfl, rfl⟩) (fun _ => rfl) ?_)
          try simp only [Act.put, List.setIfInBounds_toArray, List.set_cons_zero, List.set_cons_succ]
          first
            | (refine' ordS_take (i := 15) (oi := { dst := some 49, op := Op.pick (Operand.tmp 38) (Operand.const (Value.bool true)) (Operand.tmp 48), type := 4, pos := _, after := #[{ on := 4, ground := Ground.data }, { on := 14, ground := Ground.data }], guard := none }) (v := _) rfl (by kernel_rfl) (by kernel_rfl) (by kernel_rfl) (by kernel_rfl) (fun _ _ _ h => h) (by assumption) (Or.inl ⟨by rfl, ?hy42⟩) (fun _ => rfl) ?rest42
               case hy42 => (intro w hSw; (try dsimp only at hSw); go_simp; try with_reducible rfl))
            | (refine ordS_take (i := 15) (oi := { dst := some 49, op := Op.pick (Operand.tmp 38) (Operand.const (Value.bool true)) (Operand.tmp 48), type := 4, pos := _, after := #[{ on := 4, ground := Ground.data }, { on := 14, ground := Ground.data }], guard := none }) (v := undef) rfl (by kernel_rfl) (by kernel_rfl) (by kernel_rfl) (by kernel_rfl) (fun _ _ _ h => h) (by assumption) (Or.inr ⟨by rfl, rfl⟩) (fun _ => rfl) ?_)
          try simp only [Act.put, List.setIfInBounds_toArray, List.set_cons_zero, List.set_cons_succ]
          first
            | (refine' ordS_take (i := 16) (oi := { dst := some 50, op := Op.move (Operand.tmp 49), type := 4, pos := _, after := #[{ on := 15, ground := Ground.data }, { on := 4, ground := Ground.chain }], guard := none }) (v := _) rfl (by kernel_rfl) (by kernel_rfl) (by kernel_rfl) (by kernel_rfl) (fun _ _ _ h => h) (by assumption) (Or.inl ⟨by rfl, ?hy43⟩) (fun _ => rfl) ?rest43
               case hy43 => (intro w hSw; (try dsimp only at hSw); go_simp; try with_reducible rfl))
            | (refine ordS_take (i := 16) (oi := { dst := some 50, op := Op.move (Operand.tmp 49), type := 4, pos := _, after := #[{ on := 15, ground := Ground.data }, { on := 4, ground := Ground.chain }], guard := none }) (v := undef) rfl (by kernel_rfl) (by kernel_rfl) (by kernel_rfl) (by kernel_rfl) (fun _ _ _ h => h) (by assumption) (Or.inr ⟨by rfl, rfl⟩) (fun _ => rfl) ?_)
          try simp only [Act.put, List.setIfInBounds_toArray, List.set_cons_zero, List.set_cons_succ]
          first
            | (refine' ordS_take (i := 17) (oi := { dst := some 51, op := Op.fieldAddr 27 (Operand.tmp 10) 1, type := 0, pos := _, after := #[{ on := 16, ground := Ground.guard }], guard := some (16, false) }) (v := _) rfl (by kernel_rfl) (by kernel_rfl) (by kernel_rfl) (by kernel_rfl) (fun _ _ _ h => h) (by assumption) (Or.inl ⟨by rfl, ?hy44⟩) (fun _ => rfl) ?rest44
               case hy44 => (intro w hSw; (try dsimp only at hSw); go_simp; try with_reducible rfl))
            | (refine ordS_take (i := 17) (oi := { dst := some 51, op := Op.fieldAddr 27 (Operand.tmp 10) 1, type := 0, pos := _, after := #[{ on := 16, ground := Ground.guard }], guard := some (16, false) }) (v := undef) rfl (by kernel_rfl) (by kernel_rfl) (by kernel_rfl) (by kernel_rfl) (fun _ _ _ h => h) (by assumption) (Or.inr ⟨by rfl, rfl⟩) (fun _ => rfl) ?_)
          try simp only [Act.put, List.setIfInBounds_toArray, List.set_cons_zero, List.set_cons_succ]
          first
            | (refine' ordS_take (i := 18) (oi := { dst := some 52, op := Op.load 3 (Operand.tmp 51), type := 3, pos := _, after := #[{ on := 17, ground := Ground.data }, { on := 16, ground := Ground.guard }], guard := some (16, false) }) (v := _) rfl (by kernel_rfl) (by kernel_rfl) (by kernel_rfl) (by kernel_rfl) (fun _ _ _ h => h) (by assumption) (Or.inl ⟨by rfl, ?hy45⟩) (fun _ => rfl) ?rest45
               case hy45 => (intro w hSw; (try dsimp only at hSw); go_simp; try with_reducible rfl))
            | (refine ordS_take (i := 18) (oi := { dst := some 52, op := Op.load 3 (Operand.tmp 51), type := 3, pos := _, after := #[{ on := 17, ground := Ground.data }, { on := 16, ground := Ground.guard }], guard := some (16, false) }) (v := undef) rfl (by kernel_rfl) (by kernel_rfl) (by kernel_rfl) (by kernel_rfl) (fun _ _ _ h => h) (by assumption) (Or.inr ⟨by rfl, rfl⟩) (fun _ => rfl) ?_)
          try simp only [Act.put, List.setIfInBounds_toArray, List.set_cons_zero, List.set_cons_succ]
          first
            | (refine' ordS_take (i := 19) (oi := { dst := some 53, op := Op.fieldAddr 25 (Operand.tmp 4) 1, type := 0, pos := _, after := #[{ on := 16, ground := Ground.guard }], guard := some (16, false) }) (v := _) rfl (by kernel_rfl) (by kernel_rfl) (by kernel_rfl) (by kernel_rfl) (fun _ _ _ h => h) (by assumption) (Or.inl ⟨by rfl, ?hy46⟩) (fun _ => rfl) ?rest46
               case hy46 => (intro w hSw; (try dsimp only at hSw); go_simp; try with_reducible rfl))
            | (refine ordS_take (i := 19) (oi := { dst := some 53, op := Op.fieldAddr 25 (Operand.tmp 4) 1, type := 0, pos := _, after := #[{ on := 16, ground := Ground.guard }], guard := some (16, false) }) (v := undef) rfl (by kernel_rfl) (by kernel_rfl) (by kernel_rfl) (by kernel_rfl) (fun _ _ _ h => h) (by assumption) (Or.inr ⟨by rfl, rfl⟩) (fun _ => rfl) ?_)
          try simp only [Act.put, List.setIfInBounds_toArray, List.set_cons_zero, List.set_cons_succ]
          first
            | (refine' ordS_take (i := 20) (oi := { dst := some 54, op := Op.load 3 (Operand.tmp 53), type := 3, pos := _, after := #[{ on := 19, ground := Ground.data }, { on := 16, ground := Ground.guard }], guard := some (16, false) }) (v := _) rfl (by kernel_rfl) (by kernel_rfl) (by kernel_rfl) (by kernel_rfl) (fun _ _ _ h => h) (by assumption) (Or.inl ⟨by rfl, ?hy47⟩) (fun _ => rfl) ?rest47
               case hy47 => (intro w hSw; (try dsimp only at hSw); go_simp; try with_reducible rfl))
            | (refine ordS_take (i := 20) (oi := { dst := some 54, op := Op.load 3 (Operand.tmp 53), type := 3, pos := _, after := #[{ on := 19, ground := Ground.data }, { on := 16, ground := Ground.guard }], guard := some (16, false) }) (v := undef) rfl (by kernel_rfl) (by kernel_rfl) (by kernel_rfl) (by kernel_rfl) (fun _ _ _ h => h) (by assumption) (Or.inr ⟨by rfl, rfl⟩) (fun _ => rfl) ?_)
          try simp only [Act.put, List.setIfInBounds_toArray, List.set_cons_zero, List.set_cons_succ]
          first
            | (refine' ordS_take (i := 21) (oi := { dst := some 55, op := Op.load 3 (Operand.tmp 7), type := 3, pos := _, after := #[{ on := 16, ground := Ground.guard }], guard := some (16, false) }) (v := _) rfl (by kernel_rfl) (by kernel_rfl) (by kernel_rfl) (by kernel_rfl) (fun _ _ _ h => h) (by assumption) (Or.inl ⟨by rfl, ?hy48⟩) (fun _ => rfl) ?rest48
               case hy48 => (intro w hSw; (try dsimp only at hSw); go_simp; try with_reducible rfl))
            | (refine ordS_take (i := 21) (oi := { dst := some 55, op := Op.load 3 (Operand.tmp 7), type := 3, pos := _, after := #[{ on := 16, ground := Ground.guard }], guard := some (16, false) }) (v := undef) rfl (by kernel_rfl) (by kernel_rfl) (by kernel_rfl) (by kernel_rfl) (fun _ _ _ h => h) (by assumption) (Or.inr ⟨by rfl, rfl⟩) (fun _ => rfl) ?_)
          try simp only [Act.put, List.setIfInBounds_toArray, List.set_cons_zero, List.set_cons_succ]
          first
            | (refine' ordS_take (i := 22) (oi := { dst := some 56, op := Op.fieldAddr 25 (Operand.tmp 4) 2, type := 0, pos := _, after := #[{ on := 16, ground := Ground.guard }], guard := some (16, false) }) (v := _) rfl (by kernel_rfl) (by kernel_rfl) (by kernel_rfl) (by kernel_rfl) (fun _ _ _ h => h) (by assumption) (Or.inl ⟨by rfl, ?hy49⟩) (fun _ => rfl) ?rest49
               case hy49 => (intro w hSw; (try dsimp only at hSw); go_simp; try with_reducible rfl))
            | (refine ordS_take (i := 22) (oi := { dst := some 56, op := Op.fieldAddr 25 (Operand.tmp 4) 2, type := 0, pos := _, after := #[{ on := 16, ground := Ground.guard }], guard := some (16, false) }) (v := undef) rfl (by kernel_rfl) (by kernel_rfl) (by kernel_rfl) (by kernel_rfl) (fun _ _ _ h => h) (by assumption) (Or.inr ⟨by rfl, rfl⟩) (fun _ => rfl) ?_)
          try simp only [Act.put, List.setIfInBounds_toArray, List.set_cons_zero, List.set_cons_succ]
          first
            | (refine' ordS_take (i := 23) (oi := { dst := some 57, op := Op.load 3 (Operand.tmp 56), type := 3, pos := _, after := #[{ on := 22, ground := Ground.data }, { on := 16, ground := Ground.guard }], guard := some (16, false) }) (v := _) rfl (by kernel_rfl) (by kernel_rfl) (by kernel_rfl) (by kernel_rfl) (fun _ _ _ h => h) (by assumption) (Or.inl ⟨by rfl, ?hy50⟩) (fun _ => rfl) ?rest50
               case hy50 => (intro w hSw; (try dsimp only at hSw); go_simp; try with_reducible rfl))
            | (refine ordS_take (i := 23) (oi := { dst := some 57, op := Op.load 3 (Operand.tmp 56), type := 3, pos := _, after := #[{ on := 22, ground := Ground.data }, { on := 16, ground := Ground.guard }], guard := some (16, false) }) (v := undef) rfl (by kernel_rfl) (by kernel_rfl) (by kernel_rfl) (by kernel_rfl) (fun _ _ _ h => h) (by assumption) (Or.inr ⟨by rfl, rfl⟩) (fun _ => rfl) ?_)
          try simp only [Act.put, List.setIfInBounds_toArray, List.set_cons_zero, List.set_cons_succ]
          first
            | (refine' ordS_take (i := 24) (oi := { dst := some 58, op := Op.binOp BinOp.quo 3 (Operand.tmp 55) (Operand.tmp 57) 3, type := 3, pos := _, after := #[{ on := 21, ground := Ground.data }, { on := 23, ground := Ground.data }, { on := 16, ground := Ground.guard }], guard := some (16, false) }) (v := _) rfl (by kernel_rfl) (by kernel_rfl) (by kernel_rfl) (by kernel_rfl) (fun _ _ _ h => h) (by assumption) (Or.inl ⟨by rfl, ?hy51⟩) (fun _ => rfl) ?rest51
               case hy51 => (intro w hSw; (try dsimp only at hSw); go_simp; try with_reducible rfl))
            | (refine ordS_take (i := 24) (oi := { dst := some 58, op := Op.binOp BinOp.quo 3 (Operand.tmp 55) (Operand.tmp 57) 3, type := 3, pos := _, after := #[{ on := 21, ground := Ground.data }, { on := 23, ground := Ground.data }, { on := 16, ground := Ground.guard }], guard := some (16, false) }) (v := undef) rfl (by kernel_rfl) (by kernel_rfl) (by kernel_rfl) (by kernel_rfl) (fun _ _ _ h => h) (by assumption) (Or.inr ⟨by rfl, rfl⟩) (fun _ => rfl) ?_)
          try simp only [Act.put, List.setIfInBounds_toArray, List.set_cons_zero, List.set_cons_succ]
          first
            | (refine' ordS_take (i := 25) (oi := { dst := some 59, op := Op.binOp BinOp.add 3 (Operand.tmp 54) (Operand.tmp 58) 3, type := 3, pos := _, after := #[{ on := 20, ground := Ground.data }, { on := 24, ground := Ground.data }, { on := 16, ground := Ground.guard }], guard := some (16, false) }) (v := _) rfl (by kernel_rfl) (by kernel_rfl) (by kernel_rfl) (by kernel_rfl) (fun _ _ _ h => h) (by assumption) (Or.inl ⟨by rfl, ?hy52⟩) (fun _ => rfl) ?rest52
               case hy52 => (intro w hSw; (try dsimp only at hSw); go_simp; try with_reducible rfl))
            | (refine ordS_take (i := 25) (oi := { dst := some 59, op := Op.binOp BinOp.add 3 (Operand.tmp 54) (Operand.tmp 58) 3, type := 3, pos := _, after := #[{ on := 20, ground := Ground.data }, { on := 24, ground := Ground.data }, { on := 16, ground := Ground.guard }], guard := some (16, false) }) (v := undef) rfl (by kernel_rfl) (by kernel_rfl) (by kernel_rfl) (by kernel_rfl) (fun _ _ _ h => h) (by assumption) (Or.inr ⟨by rfl, rfl⟩) (fun _ => rfl) ?_)
          try simp only [Act.put, List.setIfInBounds_toArray, List.set_cons_zero, List.set_cons_succ]
          first
            | (refine' ordS_take (i := 26) (oi := { dst := some 60, op := Op.binOp BinOp.neq 3 (Operand.tmp 52) (Operand.tmp 59) 3, type := 4, pos := _, after := #[{ on := 18, ground := Ground.data }, { on := 25, ground := Ground.data }, { on := 16, ground := Ground.guard }], guard := some (16, false) }) (v := _) rfl (by kernel_rfl) (by kernel_rfl) (by kernel_rfl) (by kernel_rfl) (fun _ _ _ h => h) (by assumption) (Or.inl ⟨by rfl, ?hy53⟩) (fun _ => rfl) ?rest53
               case hy53 => (intro w hSw; (try dsimp only at hSw); go_simp; try with_reducible rfl))
            | (refine ordS_take (i := 26) (oi := { dst := some 60, op := Op.binOp BinOp.neq 3 (Operand.tmp 52) (Operand.tmp 59) 3, type := 4, pos := _, after := #[{ on := 18, ground := Ground.data }, { on := 25, ground := Ground.data }, { on := 16, ground := Ground.guard }], guard := some (16, false) }) (v := undef) rfl (by kernel_rfl) (by kernel_rfl) (by kernel_rfl) (by kernel_rfl) (fun _ _ _ h => h) (by assumption) (Or.inr ⟨by rfl, rfl⟩) (fun _ => rfl) ?_)
          try simp only [Act.put, List.setIfInBounds_toArray, List.set_cons_zero, List.set_cons_succ]
          first
            | (refine' ordS_take (i := 27) (oi := { dst := some 61, op := Op.pick (Operand.tmp 50) (Operand.const (Value.bool true)) (Operand.tmp 60), type := 4, pos := _, after := #[{ on := 16, ground := Ground.data }, { on := 26, ground := Ground.data }], guard := none }) (v := _) rfl (by kernel_rfl) (by kernel_rfl) (by kernel_rfl) (by kernel_rfl) (fun _ _ _ h => h) (by assumption) (Or.inl ⟨by rfl, ?hy54⟩) (fun _ => rfl) ?rest54
               case hy54 => (intro w hSw; (try dsimp only at hSw); go_simp; try with_reducible rfl))
            | (refine ordS_take (i := 27) (oi := { dst := some 61, op := Op.pick (Operand.tmp 50) (Operand.const (Value.bool true)) (Operand.tmp 60), type := 4, pos := _, after := #[{ on := 16, ground := Ground.data }, { on := 26, ground := Ground.data }], guard := none }) (v := undef) rfl (by kernel_rfl) (by kernel_rfl) (by kernel_rfl) (by kernel_rfl) (fun _ _ _ h => h) (by assumption) (Or.inr ⟨by rfl, rfl⟩) (fun _ => rfl) ?_)
          try simp only [Act.put, List.setIfInBounds_toArray, List.set_cons_zero, List.set_cons_succ]
          refine ordS_done (by kernel_rfl) ?_
          have c3 := h3.cell
          have f3 := h3.frozen
          replace f3 := frozen_later hk3 c3 f3
          replace c3 := cell_later hk3 c3
          clear x0 x1 x2 x3 p0 p1 d0 d1 c1 hS3
          gi_wp2
          have hkk : KeptB (m + 1 + 1) W0.heap.size W2 (W3.setCell ⟨w.heap.size + 1 + 1 + 1, 0, none⟩ (.bool false)) :=
            (KeptB.of_below hk3).trans (KeptB.set (k := w.heap.size + 1 + 1 + 1) _ (by omega) (by omega))
          exact ⟨hkk, BadB.last (by rw [hk, hq1]; simp [ea])⟩
        case' pos =>
          subst ea
          first
            | (refine' ordS_take (i := 14) (oi := { dst := some 48, op := Op.binOp BinOp.neq 3 (Operand.tmp 40) (Operand.tmp 47) 3, type := 4, pos := _, after := #[{ on := 6, ground := Ground.data }, { on := 13, ground := Ground.data }, { on := 4, ground := Ground.guard }], guard := some (4, false) }) (v := _) rfl (by kernel_rfl) (by kernel_rfl) (by kernel_rfl) (by kernel_rfl) (fun _ _ _ h => h) (by assumption) (Or.inl ⟨by rfl, ?hy55⟩) (fun _ => rfl) ?rest55
               case hy55 => (intro w hSw; (try dsimp only at hSw); go_simp; try with_reducible rfl))
            | (refine ordS_take (i := 14) (oi := { dst := some 48, op := Op.binOp BinOp.neq 3 (Operand.tmp 40) (Operand.tmp 47) 3, type := 4, pos := _, after := #[{ on := 6, ground := Ground.data }, { on := 13, ground := Ground.data }, { on := 4, ground := Ground.guard }], guard := some (4, false) }) (v := undef) rfl (by kernel_rfl) (by kernel_rfl) (by kernel_rfl) (by kernel_rfl) (fun _ _ _ h => h) (by assumption) (Or.inr ⟨by rfl, rfl⟩) (fun _ => rfl) ?_)
          try simp only [Act.put, List.setIfInBounds_toArray, List.set_cons_zero, List.set_cons_succ]
          first
            | (refine' ordS_take (i := 15) (oi := { dst := some 49, op := Op.pick (Operand.tmp 38) (Operand.const (Value.bool true)) (Operand.tmp 48), type := 4, pos := _, after := #[{ on := 4, ground := Ground.data }, { on := 14, ground := Ground.data }], guard := none }) (v := _) rfl (by kernel_rfl) (by kernel_rfl) (by kernel_rfl) (by kernel_rfl) (fun _ _ _ h => h) (by assumption) (Or.inl ⟨by rfl, ?hy56⟩) (fun _ => rfl) ?rest56
               case hy56 => (intro w hSw; (try dsimp only at hSw); go_simp; try with_reducible rfl))
            | (refine ordS_take (i := 15) (oi := { dst := some 49, op := Op.pick (Operand.tmp 38) (Operand.const (Value.bool true)) (Operand.tmp 48), type := 4, pos := _, after := #[{ on := 4, ground := Ground.data }, { on := 14, ground := Ground.data }], guard := none }) (v := undef) rfl (by kernel_rfl) (by kernel_rfl) (by kernel_rfl) (by kernel_rfl) (fun _ _ _ h => h) (by assumption) (Or.inr ⟨by rfl, rfl⟩) (fun _ => rfl) ?_)
          try simp only [Act.put, List.setIfInBounds_toArray, List.set_cons_zero, List.set_cons_succ]
          first
            | (refine' ordS_take (i := 16) (oi := { dst := some 50, op := Op.move (Operand.tmp 49), type := 4, pos := _, after := #[{ on := 15, ground := Ground.data }, { on := 4, ground := Ground.chain }], guard := none }) (v := _) rfl (by kernel_rfl) (by kernel_rfl) (by kernel_rfl) (by kernel_rfl) (fun _ _ _ h => h) (by assumption) (Or.inl ⟨by rfl, ?hy57⟩) (fun _ => rfl) ?rest57
               case hy57 => (intro w hSw; (try dsimp only at hSw); go_simp; try with_reducible rfl))
            | (refine ordS_take (i := 16) (oi := { dst := some 50, op := Op.move (Operand.tmp 49), type := 4, pos := _, after := #[{ on := 15, ground := Ground.data }, { on := 4, ground := Ground.chain }], guard := none }) (v := undef) rfl (by kernel_rfl) (by kernel_rfl) (by kernel_rfl) (by kernel_rfl) (fun _ _ _ h => h) (by assumption) (Or.inr ⟨by rfl, rfl⟩) (fun _ => rfl) ?_)
          try simp only [Act.put, List.setIfInBounds_toArray, List.set_cons_zero, List.set_cons_succ]
          first
            | (refine' ordS_take (i := 17) (oi := { dst := some 51, op := Op.fieldAddr 27 (Operand.tmp 10) 1, type := 0, pos := _, after := #[{ on := 16, ground := Ground.guard }], guard := some (16, false) }) (v := _) rfl (by kernel_rfl) (by kernel_rfl) (by kernel_rfl) (by kernel_rfl) (fun _ _ _ h => h) (by assumption) (Or.inl ⟨by rfl, ?hy58⟩) (fun _ => rfl) ?rest58
               case hy58 => (intro w hSw; (try dsimp only at hSw); go_simp; try with_reducible rfl))
            | (refine ordS_take (i := 17) (oi := { dst := some 51, op := Op.fieldAddr 27 (Operand.tmp 10) 1, type := 0, pos := _, after := #[{ on := 16, ground := Ground.guard }], guard := some (16, false) }) (v := undef) rfl (by kernel_rfl) (by kernel_rfl) (by kernel_rfl) (by kernel_rfl) (fun _ _ _ h => h) (by assumption) (Or.inr ⟨by rfl, rfl⟩) (fun _ => rfl) ?_)
          try simp only [Act.put, List.setIfInBounds_toArray, List.set_cons_zero, List.set_cons_succ]
          first
            | (refine' ordS_take (i := 18) (oi := { dst := some 52, op := Op.load 3 (Operand.tmp 51), type := 3, pos := _, after := #[{ on := 17, ground := Ground.data }, { on := 16, ground := Ground.guard }], guard := some (16, false) }) (v := _) rfl (by kernel_rfl) (by kernel_rfl) (by kernel_rfl) (by kernel_rfl) (fun _ _ _ h => h) (by assumption) (Or.inl ⟨by rfl, ?hy59⟩) (fun _ => rfl) ?rest59
               case hy59 => (intro w hSw; (try dsimp only at hSw); go_simp; try with_reducible rfl))
            | (refine ordS_take (i := 18) (oi := { dst := some 52, op := Op.load 3 (Operand.tmp 51), type := 3, pos := _, after := #[{ on := 17, ground := Ground.data }, { on := 16, ground := Ground.guard }], guard := some (16, false) }) (v := undef) rfl (by kernel_rfl) (by kernel_rfl) (by kernel_rfl) (by kernel_rfl) (fun _ _ _ h => h) (by assumption) (Or.inr ⟨by rfl, rfl⟩) (fun _ => rfl) ?_)
          try simp only [Act.put, List.setIfInBounds_toArray, List.set_cons_zero, List.set_cons_succ]
          first
            | (refine' ordS_take (i := 19) (oi := { dst := some 53, op := Op.fieldAddr 25 (Operand.tmp 4) 1, type := 0, pos := _, after := #[{ on := 16, ground := Ground.guard }], guard := some (16, false) }) (v := _) rfl (by kernel_rfl) (by kernel_rfl) (by kernel_rfl) (by kernel_rfl) (fun _ _ _ h => h) (by assumption) (Or.inl ⟨by rfl, ?hy60⟩) (fun _ => rfl) ?rest60
               case hy60 => (intro w hSw; (try dsimp only at hSw); go_simp; try with_reducible rfl))
            | (refine ordS_take (i := 19) (oi := { dst := some 53, op := Op.fieldAddr 25 (Operand.tmp 4) 1, type := 0, pos := _, after := #[{ on := 16, ground := Ground.guard }], guard := some (16, false) }) (v := undef) rfl (by kernel_rfl) (by kernel_rfl) (by kernel_rfl) (by kernel_rfl) (fun _ _ _ h => h) (by assumption) (Or.inr ⟨by rfl, rfl⟩) (fun _ => rfl) ?_)
          try simp only [Act.put, List.setIfInBounds_toArray, List.set_cons_zero, List.set_cons_succ]
          first
            | (refine' ordS_take (i := 20) (oi := { dst := some 54, op := Op.load 3 (Operand.tmp 53), type := 3, pos := _, after := #[{ on := 19, ground := Ground.data }, { on := 16, ground := Ground.guard }], guard := some (16, false) }) (v := _) rfl (by kernel_rfl) (by kernel_rfl) (by kernel_rfl) (by kernel_rfl) (fun _ _ _ h => h) (by assumption) (Or.inl ⟨by rfl, ?hy61⟩) (fun _ => rfl) ?rest61
               case hy61 => (intro w hSw; (try dsimp only at hSw); go_simp; try with_reducible rfl))
            | (refine ordS_take (i := 20) (oi := { dst := some 54, op := Op.load 3 (Operand.tmp 53), type := 3, pos := _, after := #[{ on := 19, ground := Ground.data }, { on := 16, ground := Ground.guard }], guard := some (16, false) }) (v := undef) rfl (by kernel_rfl) (by kernel_rfl) (by kernel_rfl) (by kernel_rfl) (fun _ _ _ h => h) (by assumption) (Or.inr ⟨by rfl, rfl⟩) (fun _ => rfl) ?_)
          try simp only [Act.put, List.setIfInBounds_toArray, List.set_cons_zero, List.set_cons_succ]
          first
            | (refine' ordS_take (i := 21) (oi := { dst := some 55, op := Op.load 3 (Operand.tmp 7), type := 3, pos := _, after := #[{ on := 16, ground := Ground.guard }], guard := some (16, false) }) (v := _) rfl (by kernel_rfl) (by kernel_rfl) (by kernel_rfl) (by kernel_rfl) (fun _ _ _ h => h) (by assumption) (Or.inl ⟨by rfl, ?hy62⟩) (fun _ => rfl) ?rest62
               case hy62 => (intro w hSw; (try dsimp only at hSw); go_simp; try with_reducible rfl))
            | (refine ordS_take (i := 21) (oi := { dst := some 55, op := Op.load 3 (Operand.tmp 7), type := 3, pos := _, after := #[{ on := 16, ground := Ground.guard }], guard := some (16, false) }) (v := undef) rfl (by kernel_rfl) (by kernel_rfl) (by kernel_rfl) (by kernel_rfl) (fun _ _ _ h => h) (by assumption) (Or.inr ⟨by rfl, rfl⟩) (fun _ => rfl) ?_)
          try simp only [Act.put, List.setIfInBounds_toArray, List.set_cons_zero, List.set_cons_succ]
          first
            | (refine' ordS_take (i := 22) (oi := { dst := some 56, op := Op.fieldAddr 25 (Operand.tmp 4) 2, type := 0, pos := _, after := #[{ on := 16, ground := Ground.guard }], guard := some (16, false) }) (v := _) rfl (by kernel_rfl) (by kernel_rfl) (by kernel_rfl) (by kernel_rfl) (fun _ _ _ h => h) (by assumption) (Or.inl ⟨by rfl, ?hy63⟩) (fun _ => rfl) ?rest63
               case hy63 => (intro w hSw; (try dsimp only at hSw); go_simp; try with_reducible rfl))
            | (refine ordS_take (i := 22) (oi := { dst := some 56, op := Op.fieldAddr 25 (Operand.tmp 4) 2, type := 0, pos := _, after := #[{ on := 16, ground := Ground.guard }], guard := some (16, false) }) (v := undef) rfl (by kernel_rfl) (by kernel_rfl) (by kernel_rfl) (by kernel_rfl) (fun _ _ _ h => h) (by assumption) (Or.inr ⟨by rfl, rfl⟩) (fun _ => rfl) ?_)
          try simp only [Act.put, List.setIfInBounds_toArray, List.set_cons_zero, List.set_cons_succ]
          first
            | (refine' ordS_take (i := 23) (oi := { dst := some 57, op := Op.load 3 (Operand.tmp 56), type := 3, pos := _, after := #[{ on := 22, ground := Ground.data }, { on := 16, ground := Ground.guard }], guard := some (16, false) }) (v := _) rfl (by kernel_rfl) (by kernel_rfl) (by kernel_rfl) (by kernel_rfl) (fun _ _ _ h => h) (by assumption) (Or.inl ⟨by rfl, ?hy64⟩) (fun _ => rfl) ?rest64
               case hy64 => (intro w hSw; (try dsimp only at hSw); go_simp; try with_reducible rfl))
            | (refine ordS_take (i := 23) (oi := { dst := some 57, op := Op.load 3 (Operand.tmp 56), type := 3, pos := _, after := #[{ on := 22, ground := Ground.data }, { on := 16, ground := Ground.guard }], guard := some (16, false) }) (v := undef) rfl (by kernel_rfl) (by kernel_rfl) (by kernel_rfl) (by kernel_rfl) (fun _ _ _ h => h) (by assumption) (Or.inr ⟨by rfl, rfl⟩) (fun _ => rfl) ?_)
          try simp only [Act.put, List.setIfInBounds_toArray, List.set_cons_zero, List.set_cons_succ]
          first
            | (refine' ordS_take (i := 24) (oi := { dst := some 58, op := Op.binOp BinOp.quo 3 (Operand.tmp 55) (Operand.tmp 57) 3, type := 3, pos := _, after := #[{ on := 21, ground := Ground.data }, { on := 23, ground := Ground.data }, { on := 16, ground := Ground.guard }], guard := some (16, false) }) (v := _) rfl (by kernel_rfl) (by kernel_rfl) (by kernel_rfl) (by kernel_rfl) (fun _ _ _ h => h) (by assumption) (Or.inl ⟨by rfl, ?hy65⟩) (fun _ => rfl) ?rest65
               case hy65 => (intro w hSw; (try dsimp only at hSw); go_simp; try with_reducible rfl))
            | (refine ordS_take (i := 24) (oi := { dst := some 58, op := Op.binOp BinOp.quo 3 (Operand.tmp 55) (Operand.tmp 57) 3, type := 3, pos := _, after := #[{ on := 21, ground := Ground.data }, { on := 23, ground := Ground.data }, { on := 16, ground := Ground.guard }], guard := some (16, false) }) (v := undef) rfl (by kernel_rfl) (by kernel_rfl) (by kernel_rfl) (by kernel_rfl) (fun _ _ _ h => h) (by assumption) (Or.inr ⟨by rfl, rfl⟩) (fun _ => rfl) ?_)
          try simp only [Act.put, List.setIfInBounds_toArray, List.set_cons_zero, List.set_cons_succ]
          first
            | (refine' ordS_take (i := 25) (oi := { dst := some 59, op := Op.binOp BinOp.add 3 (Operand.tmp 54) (Operand.tmp 58) 3, type := 3, pos := _, after := #[{ on := 20, ground := Ground.data }, { on := 24, ground := Ground.data }, { on := 16, ground := Ground.guard }], guard := some (16, false) }) (v := _) rfl (by kernel_rfl) (by kernel_rfl) (by kernel_rfl) (by kernel_rfl) (fun _ _ _ h => h) (by assumption) (Or.inl ⟨by rfl, ?hy66⟩) (fun _ => rfl) ?rest66
               case hy66 => (intro w hSw; (try dsimp only at hSw); go_simp; try with_reducible rfl))
            | (refine ordS_take (i := 25) (oi := { dst := some 59, op := Op.binOp BinOp.add 3 (Operand.tmp 54) (Operand.tmp 58) 3, type := 3, pos := _, after := #[{ on := 20, ground := Ground.data }, { on := 24, ground := Ground.data }, { on := 16, ground := Ground.guard }], guard := some (16, false) }) (v := undef) rfl (by kernel_rfl) (by kernel_rfl) (by kernel_rfl) (by kernel_rfl) (fun _ _ _ h => h) (by assumption) (Or.inr ⟨by rfl, rfl⟩) (fun _ => rfl) ?_)
          try simp only [Act.put, List.setIfInBounds_toArray, List.set_cons_zero, List.set_cons_succ]
          by_cases eb : b = q2
          case' neg =>
            have eb1 : (b == q2) = false := by simp [eb]
            have eb2 : (b != q2) = true := by simp [eb]
            first
              | (refine' ordS_take (i := 26) (oi := { dst := some 60, op := Op.binOp BinOp.neq 3 (Operand.tmp 52) (Operand.tmp 59) 3, type := 4, pos := _, after := #[{ on := 18, ground := Ground.data }, { on := 25, ground := Ground.data }, { on := 16, ground := Ground.guard }], guard := some (16, false) }) (v := _) rfl (by kernel_rfl) (by kernel_rfl) (by kernel_rfl) (by kernel_rfl) (fun _ _ _ h => h) (by assumption) (Or.inl ⟨by rfl, ?hy67⟩) (fun _ => rfl) ?rest67
                 case hy67 => (intro w hSw; (try dsimp only at hSw); go_simp; try with_reducible rfl))
              | (refine ordS_take (i := 26) (oi := { dst := some 60, op := Op.binOp BinOp.neq 3 (Operand.tmp 52) (Operand.tmp 59) 3, type := 4, pos := _, after := #[{ on := 18, ground := Ground.data }, { on := 25, ground := Ground.data }, { on := 16, ground := Ground.guard }], guard := some (16, false) }) (v := undef) rfl (by kernel_rfl) (by kernel_rfl) (by kernel_rfl) (by kernel_rfl) (fun _ _ _ h => h) (by assumption) (Or.inr ⟨by rfl, rfl⟩) (fun _ => rfl) ?_)
            try simp only [Act.put, List.setIfInBounds_toArray, List.set_cons_zero, List.set_cons_succ]
            first
              | (refine' ordS_take (i := 27) (oi := { dst := some 61, op := Op.pick (Operand.tmp 50) (Operand.const (Value.bool true)) (Operand.tmp 60), type := 4, pos := _, after := #[{ on := 16, ground := Ground.data }, { on := 26, ground := Ground.data }], guard := none }) (v := _) rfl (by kernel_rfl) (by kernel_rfl) (by kernel_rfl) (by kernel_rfl) (fun _ _ _ h => h) (by assumption) (Or.inl ⟨by rfl, ?hy68⟩) (fun _ => rfl) ?rest68
                 case hy68 => (intro w hSw; (try dsimp only at hSw); go_simp; try with_reducible rfl))
              | (refine ordS_take (i := 27) (oi := { dst := some 61, op := Op.pick (Operand.tmp 50) (Operand.const (Value.bool true)) (Operand.tmp 60), type := 4, pos := _, after := #[{ on := 16, ground := Ground.data }, { on := 26, ground := Ground.data }], guard := none }) (v := undef) rfl (by kernel_rfl) (by kernel_rfl) (by kernel_rfl) (by kernel_rfl) (fun _ _ _ h => h) (by assumption) (Or.inr ⟨by rfl, rfl⟩) (fun _ => rfl) ?_)
            try simp only [Act.put, List.setIfInBounds_toArray, List.set_cons_zero, List.set_cons_succ]
            refine ordS_done (by kernel_rfl) ?_
            have c3 := h3.cell
            have f3 := h3.frozen
            replace f3 := frozen_later hk3 c3 f3
            replace c3 := cell_later hk3 c3
            clear x0 x1 x2 x3 p0 p1 d0 d1 c1 hS3
            gi_wp2
            have hkk : KeptB (m + 1 + 1) W0.heap.size W2 (W3.setCell ⟨w.heap.size + 1 + 1 + 1, 0, none⟩ (.bool false)) :=
              (KeptB.of_below hk3).trans (KeptB.set (k := w.heap.size + 1 + 1 + 1) _ (by omega) (by omega))
            exact ⟨hkk, BadB.last (by rw [hk, hq2]; simp [eb])⟩
          case' pos =>
            subst eb
            first
              | (refine' ordS_take (i := 26) (oi := { dst := some 60, op := Op.binOp BinOp.neq 3 (Operand.tmp 52) (Operand.tmp 59) 3, type := 4, pos := _, after := #[{ on := 18, ground := Ground.data }, { on := 25, ground := Ground.data }, { on := 16, ground := Ground.guard }], guard := some (16, false) }) (v := _) rfl (by kernel_rfl) (by kernel_rfl) (by kernel_rfl) (by kernel_rfl) (fun _ _ _ h => h) (by assumption) (Or.inl ⟨by rfl, ?hy69⟩) (fun _ => rfl) ?rest69
                 case hy69 => (intro w hSw; (try dsimp only at hSw); go_simp; try with_reducible rfl))
              | (refine ordS_take (i := 26) (oi := { dst := some 60, op := Op.binOp BinOp.neq 3 (Operand.tmp 52) (Operand.tmp 59) 3, type := 4, pos := _, after := #[{ on := 18, ground := Ground.data }, { on := 25, ground := Ground.data }, { on := 16, ground := Ground.guard }], guard := some (16, false) }) (v := undef) rfl (by kernel_rfl) (by kernel_rfl) (by kernel_rfl) (by kernel_rfl) (fun _ _ _ h => h) (by assumption) (Or.inr ⟨by rfl, rfl⟩) (fun _ => rfl) ?_)
            try simp only [Act.put, List.setIfInBounds_toArray, List.set_cons_zero, List.set_cons_succ]
            first
              | (refine' ordS_take (i := 27) (oi := { dst := some 61, op := Op.pick (Operand.tmp 50) (Operand.const (Value.bool true)) (Operand.tmp 60), type := 4, pos := _, after := #[{ on := 16, ground := Ground.data }, { on := 26, ground := Ground.data }], guard := none }) (v := _) rfl (by kernel_rfl) (by kernel_rfl) (by kernel_rfl) (by kernel_rfl) (fun _ _ _ h => h) (by assumption) (Or.inl ⟨by rfl, ?hy70⟩) (fun _ => rfl) ?rest70
                 case hy70 => (intro w hSw; (try dsimp only at hSw); go_simp; try with_reducible rfl))
              | (refine ordS_take (i := 27) (oi := { dst := some 61, op := Op.pick (Operand.tmp 50) (Operand.const (Value.bool true)) (Operand.tmp 60), type := 4, pos := _, after := #[{ on := 16, ground := Ground.data }, { on := 26, ground := Ground.data }], guard := none }) (v := undef) rfl (by kernel_rfl) (by kernel_rfl) (by kernel_rfl) (by kernel_rfl) (fun _ _ _ h => h) (by assumption) (Or.inr ⟨by rfl, rfl⟩) (fun _ => rfl) ?_)
            try simp only [Act.put, List.setIfInBounds_toArray, List.set_cons_zero, List.set_cons_succ]
            refine ordS_done (by kernel_rfl) ?_
            clear t1 t2 t5 t3 t4 hq1 hq2 m1 m2 m3 m4 hU0 hU1 x0 x1 x2 x3 hS3
            subst hk
            have f1 := h1.frozen
            have c2 := h2.cell
            have f2 := h2.frozen
            have hv0 := anB_snoc P Q pre (a, b)
            dsimp only at hv0
            replace f1 := frozen_later hk3 c1 f1
            replace c1 := cell_later hk3 c1
            replace f2 := frozen_later hk3 c2 f2
            replace c2 := cell_later hk3 c2
            replace p0 := cell_later hk3 p0
            replace p1 := cell_later hk3 p1
            replace d0 := cell_later hk3 d0
            replace d1 := cell_later hk3 d1
            cases ha : anB P Q pre
            case' false =>
              rw [ha] at c2 hv0
              have HV := Lib.hid hv0
              clear hv0 ha
              gi_wp2
              all_goals exact ⟨((KeptB.of_below hk3).trans (KeptB.set (k := m + 1) _ (by omega) (by omega))).trans (KeptB.set (k := m) _ (by omega) (by omega)), InvB.next (by omega) (by rw [HV.out]; simp [*]) hi3⟩
            case' true =>
              rw [ha] at c2 hv0
              have HV := Lib.hid hv0
              clear hv0 ha
              gi_wp2
              all_goals exact ⟨((KeptB.of_below hk3).trans (KeptB.set (k := m + 1) _ (by omega) (by omega))).trans (KeptB.set (k := m) _ (by omega) (by omega)), InvB.next (by omega) (by rw [HV.out]; simp [*]) hi3⟩
    case done =>
      rintro D W hD ⟨⟨h1, h2, h3⟩, ⟨⟨s0, s1⟩, ⟨x0, x1, x2, x3⟩, ⟨p0, p1⟩, hbel⟩, hsz⟩ hdW
      rw [show cellsOf X U.toNat (upto (fun j => Y + (j : Int)) (rowsOf X Y U V)) = boxCells X Y U V from rfl] at h1 h2
      rw [anB_box] at h2
      rw [boxCells_len] at h1
      have c1 := h1.cell
      have c2 := h2.cell
      have c3 := h3.cell
      have f3 := h3.frozen
      have hrr := rright_any X Y U V
      have hrh := rhas_any X Y U V P Q
      generalize hasB X Y U V P Q = q at c2 hrh
      clear hInv hBx h1 h2
      by_cases hr : rightB X Y U V = true
      case' pos =>
        obtain ⟨r1, r2, r3, r4, r5, r6, r7, r8⟩ := rightB_iff.1 hr
        rw [hr] at hrr
        have hu := Int.mul_nonneg r5 r7
        have hu2 : U * V ≤ 256 * 256 := Int.mul_le_mul r6 r8 r7 (by omega)
        have hn : ((rowsOf X Y U V * U.toNat : Nat) : Int) = U * V := by
          rw [rowsOf, if_pos hr, Int.natCast_mul, Int.toNat_of_nonneg r5, Int.toNat_of_nonneg r7, Int.mul_comm]
        rw [hn] at c1
        have hw : IntKind.i64.wrap (U * V) = U * V := IntWalk.i64_in _ (by omega)
        clear hn hr r1 r2 r3 r4
        go_wp2_with fail
        refine (hrr _).mono ?_
        rintro e W2 ⟨rfl, hb⟩
        have hd2 := (hb.block D (Array.getElem?_eq_some_iff.1 hdW).1).trans hdW
        replace f3 := frozen_later hb c3 f3
        replace c1 := cell_later hb c1
        replace c2 := cell_later hb c2
        replace c3 := cell_later hb c3
        replace x0 := cell_later hb x0
        replace x1 := cell_later hb x1
        replace x2 := cell_later hb x2
        replace x3 := cell_later hb x3
        replace p0 := cell_later hb p0
        replace p1 := cell_later hb p1
        replace hbel := bl_tr hbel hb
        have hs2 := hs.below hbel
        clear hb hdW s0 s1 hrr
        go_wp2_with fail
        have hA := bl_dr (bl0 W2)
        go_region_held3 (fun w' => w'.cell? ⟨w.heap.size + 1, 0, none⟩ = some (.int .i64 X) ∧ w'.cell? ⟨w.heap.size + 1, 1, none⟩ = some (.int .i64 Y) ∧ w'.cell? ⟨w.heap.size + 1, 2, none⟩ = some (.int .i64 U) ∧ w'.cell? ⟨w.heap.size + 1, 3, none⟩ = some (.int .i64 V) ∧ w'.cell? ⟨w.heap.size + 1 + 1, 0, none⟩ = some (.int .i64 P) ∧ w'.cell? ⟨w.heap.size + 1 + 1, 1, none⟩ = some (.int .i64 Q) ∧ w'.cell? ⟨m, 0, none⟩ = some (.int .i64 (U * V)) ∧ w'.cell? ⟨m + 1, 0, none⟩ = some (.bool q))
          (first | exact ⟨cell_later hA x0, cell_later hA x1, cell_later hA x2, cell_later hA x3, cell_later hA p0, cell_later hA p1, cell_later hA c1, cell_later hA c2⟩ | exact ⟨cell_set (cell_later hA x0) (by omega), cell_set (cell_later hA x1) (by omega), cell_set (cell_later hA x2) (by omega), cell_set (cell_later hA x3) (by omega), cell_set (cell_later hA p0) (by omega), cell_set (cell_later hA p1) (by omega), cell_set (cell_later hA c1) (by omega), cell_set (cell_later hA c2) (by omega)⟩)
          (first
            | (go_at_call 8; refine (hrh _).mono ?_; rintro e W3 ⟨rfl, hb⟩; replace hA := bl_tr hA hb; have f4 := frozen_later hA c3 f3; have c4 := cell_later hA c3; clear hb)
            | (go_at_call 11; refine (awake_any _ (hs2.below hA)).mono ?_; rintro e W3 ⟨rfl, hb⟩; replace hA := bl_tr hA hb; have f4 := frozen_later hA c3 f3; have c4 := cell_later hA c3; clear hb))
        go_wp2
        have hd3 := (hA.block D (Array.getElem?_eq_some_iff.1 hd2).1).trans hd2
        have hbel4 := bl_tr hbel hA
        have hd4 : (W3.setCell ⟨w.heap.size + 1 + 1 + 1, 0, none⟩ (.bool true)).heap[D]? = some (.deferred (some [])) := (Below.heap_setCell W3 ⟨w.heap.size + 1 + 1 + 1, 0, none⟩ (.bool true) D (show D ≠ w.heap.size + 1 + 1 + 1 by omega)).trans hd3
        have r3 : ((W3.setCell ⟨w.heap.size + 1 + 1 + 1, 0, none⟩ (.bool true)).putObj D (.deferred none)).cell? ⟨w.heap.size + 1 + 1 + 1, 0, none⟩ = some (.bool true) := cell_put _ (by simp [go_sem, c4]) (by omega)
        refine ⟨by simp, .inl ⟨_, _, rfl, run_takeDeferred hd4, ⟨.bool true, by simp [results, Tryd.f3, go_sem, r3], rfl, ?_⟩⟩⟩
        have hb4 := bl_st hbel4 (b := w.heap.size + 1 + 1 + 1) (o := 0) (by omega) (.bool true)
        exact hb4.grown (grownBy_putObj' _ D _) hb4.size (fun r e => by cases e; omega)
      case' neg =>
        have hr' : rightB X Y U V = false := by simpa using hr
        rw [hr'] at hrr
        have hn : ((rowsOf X Y U V * U.toNat : Nat) : Int) = 0 := by simp [rowsOf, hr]
        rw [hn] at c1
        clear hn hr hr'
        go_wp2_with fail
        refine (hrr _).mono ?_
        rintro e W2 ⟨rfl, hb⟩
        have hd2 := (hb.block D (Array.getElem?_eq_some_iff.1 hdW).1).trans hdW
        replace f3 := frozen_later hb c3 f3
        replace c1 := cell_later hb c1
        replace c2 := cell_later hb c2
        replace c3 := cell_later hb c3
        replace x0 := cell_later hb x0
        replace x1 := cell_later hb x1
        replace x2 := cell_later hb x2
        replace x3 := cell_later hb x3
        replace p0 := cell_later hb p0
        replace p1 := cell_later hb p1
        replace hbel := bl_tr hbel hb
        have hs2 := hs.below hbel
        clear hb hdW s0 s1 hrr
        go_wp2_with fail
        have hA := bl_dr (bl0 W2)
        go_region_held3 (fun w' => w'.cell? ⟨w.heap.size + 1, 0, none⟩ = some (.int .i64 X) ∧ w'.cell? ⟨w.heap.size + 1, 1, none⟩ = some (.int .i64 Y) ∧ w'.cell? ⟨w.heap.size + 1, 2, none⟩ = some (.int .i64 U) ∧ w'.cell? ⟨w.heap.size + 1, 3, none⟩ = some (.int .i64 V) ∧ w'.cell? ⟨w.heap.size + 1 + 1, 0, none⟩ = some (.int .i64 P) ∧ w'.cell? ⟨w.heap.size + 1 + 1, 1, none⟩ = some (.int .i64 Q) ∧ w'.cell? ⟨m, 0, none⟩ = some (.int .i64 0) ∧ w'.cell? ⟨m + 1, 0, none⟩ = some (.bool q))
          (first | exact ⟨cell_later hA x0, cell_later hA x1, cell_later hA x2, cell_later hA x3, cell_later hA p0, cell_later hA p1, cell_later hA c1, cell_later hA c2⟩ | exact ⟨cell_set (cell_later hA x0) (by omega), cell_set (cell_later hA x1) (by omega), cell_set (cell_later hA x2) (by omega), cell_set (cell_later hA x3) (by omega), cell_set (cell_later hA p0) (by omega), cell_set (cell_later hA p1) (by omega), cell_set (cell_later hA c1) (by omega), cell_set (cell_later hA c2) (by omega)⟩)
          (first
            | (go_at_call 8; refine (hrh _).mono ?_; rintro e W3 ⟨rfl, hb⟩; replace hA := bl_tr hA hb; have f4 := frozen_later hA c3 f3; have c4 := cell_later hA c3; clear hb)
            | (go_at_call 11; refine (awake_any _ (hs2.below hA)).mono ?_; rintro e W3 ⟨rfl, hb⟩; replace hA := bl_tr hA hb; have f4 := frozen_later hA c3 f3; have c4 := cell_later hA c3; clear hb))
        go_wp2
        have hd3 := (hA.block D (Array.getElem?_eq_some_iff.1 hd2).1).trans hd2
        have hbel4 := bl_tr hbel hA
        have hd4 : (W3.setCell ⟨w.heap.size + 1 + 1 + 1, 0, none⟩ (.bool true)).heap[D]? = some (.deferred (some [])) := (Below.heap_setCell W3 ⟨w.heap.size + 1 + 1 + 1, 0, none⟩ (.bool true) D (show D ≠ w.heap.size + 1 + 1 + 1 by omega)).trans hd3
        have r3 : ((W3.setCell ⟨w.heap.size + 1 + 1 + 1, 0, none⟩ (.bool true)).putObj D (.deferred none)).cell? ⟨w.heap.size + 1 + 1 + 1, 0, none⟩ = some (.bool true) := cell_put _ (by simp [go_sem, c4]) (by omega)
        refine ⟨by simp, .inl ⟨_, _, rfl, run_takeDeferred hd4, ⟨.bool true, by simp [results, Tryd.f3, go_sem, r3], rfl, ?_⟩⟩⟩
        have hb4 := bl_st hbel4 (b := w.heap.size + 1 + 1 + 1) (o := 0) (by omega) (.bool true)
        exact hb4.grown (grownBy_putObj' _ D _) hb4.size (fun r e => by cases e; omega)
end Go.Proofs.YtcbhbekhogcedaaDoor
