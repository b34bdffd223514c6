/- Parse: the walk over the rows of a text. -/
import Derived.Test.YthnpoeobieninaaDoorVl
import Derived.WalkMore
import Derived.Scope
namespace Go.Proofs.YthnpoeobieninaaDoor
open Go.RowKit Go.Shelf
attribute [local go_sem] Oper.semAt_some

theorem linesF_mem : ∀ (l : List UInt8) (x : List UInt8), x ∈ linesF l → x.length ≤ l.length
  | [], x, h => by simp [linesF] at h
  | b :: r, x, h => by
    rw [linesF] at h
    split at h
    · rcases List.mem_cons.1 h with rfl | h
      · simp
      · have := linesF_mem r x h
        simp; omega
    · cases hr : linesF r with
      | nil => rw [hr] at h; simp at h; subst h; simp
      | cons y ys =>
        rw [hr] at h
        rcases List.mem_cons.1 h with rfl | h
        · have := linesF_mem r y (by rw [hr]; simp)
          simp; omega
        · have := linesF_mem r x (by rw [hr]; simp [h])
          simp; omega
theorem piecesF_ne : ∀ (l : List UInt8), piecesF l ≠ []
  | [] => by simp [piecesF]
  | b :: r => by
    rw [piecesF]
    split
    · simp
    · split <;> simp
theorem piecesF_len : ∀ (l : List UInt8), (piecesF l).length ≤ l.length + 1
  | [] => by simp [piecesF]
  | b :: r => by
    have ih := piecesF_len r
    rw [piecesF]
    split
    · simp; omega
    · split
      · simp
      · rename_i y ys hr
        rw [hr] at ih
        simp at ih ⊢; omega
theorem piecesF_mem : ∀ (l : List UInt8) (x : List UInt8), x ∈ piecesF l → x.length ≤ l.length
  | [], x, h => by simp [piecesF] at h; subst h; simp
  | b :: r, x, h => by
    rw [piecesF] at h
    split at h
    · rcases List.mem_cons.1 h with rfl | h
      · simp
      · have := piecesF_mem r x h
        simp; omega
    · cases hr : piecesF r with
      | nil => rw [hr] at h; simp at h; subst h; simp
      | cons y ys =>
        rw [hr] at h
        rcases List.mem_cons.1 h with rfl | h
        · have := piecesF_mem r y (by rw [hr]; simp)
          simp; omega
        · have := piecesF_mem r x (by rw [hr]; simp [h])
          simp; omega
theorem snoc_ind {α : Type} {P : List α → Prop} (h0 : P []) (h1 : ∀ l a, P l → P (l ++ [a])) (l : List α) : P l := by
  rw [← List.reverse_reverse l]
  induction l.reverse with
  | nil => exact h0
  | cons a t ih => rw [List.reverse_cons]; exact h1 _ _ ih
theorem prefix_last {α : Type} {pre xs : List α} {x : α} (h : pre ++ [x] <+: xs) : x ∈ xs := h.subset (by simp)

theorem runP_le (cs : List Int) (ps : List (List UInt8)) : (runP cs ps).1.length ≤ cs.length + ps.length := by
  induction ps using snoc_ind with
  | h0 => simp [runP]
  | h1 ps l ih =>
    rw [runP_snoc]
    unfold stepP
    split
    · simp; omega
    · split
      · simp; omega
      · simp; omega
theorem fits_ok {W H n : Int} (h : fitsF W H n = 0) : n ≤ 256 ∧ n = W ∧ H ≤ 256 := by
  unfold fitsF at h
  split at h
  · cases h
  · split at h
    · cases h
    · split at h
      · cases h
      · rename_i h1 h2 h3
        refine ⟨by omega, ?_, by omega⟩
        by_cases e : n = W
        · exact e
        · exact absurd e h2
theorem runL_ok (ls : List (List UInt8)) (h : (runL ls).e = 0) : 0 ≤ (runL ls).H ∧ (runL ls).H ≤ 256 ∧ (runL ls).H = ls.length ∧ ((runL ls).cs.length : Int) ≤ 256 * (runL ls).H := by
  induction ls using snoc_ind with
  | h0 => simp [runL, ps0]
  | h1 ls l ih =>
    rw [runL_snoc] at h ⊢
    unfold stepL at h ⊢
    split at h
    · rename_i h0
      exact absurd h h0
    · rename_i h0
      have h0' : (runL ls).e = 0 := by simpa using h0
      obtain ⟨i1, i2, i3, i4⟩ := ih h0'
      rw [if_neg h0]
      split at h
      · cases h
      · rename_i h1
        rw [if_neg h1]
        split at h
        · rename_i h2
          exact absurd h h2
        · rename_i h2
          rw [if_neg h2]
          obtain ⟨f1, _, f3⟩ := fits_ok h
          have hl := runP_le (runL ls).cs (piecesF (Lib.trimSuffix l [10]))
          refine ⟨by show 0 ≤ (runL ls).H + 1; omega, f3, ?_, ?_⟩
          · show (runL ls).H + 1 = _
            rw [i3]; simp
          · show ((runP _ _).1.length : Int) ≤ 256 * ((runL ls).H + 1)
            omega
/-- A row that no line feed ends. -/
theorem stepL_form {s : PS} {l : List UInt8} (h : s.e = 0) (h1 : Lib.hasSuffix l [10] = false) : (stepL s l).e = 11 ∧ (stepL s l).H = s.H + 1 := by
  unfold stepL
  rw [if_neg (fun e => e h), if_pos h1]
  exact ⟨rfl, rfl⟩
theorem stepL_cost {s : PS} {l : List UInt8} (h : s.e = 0) (h1 : Lib.hasSuffix l [10] = true) (h2 : (runP s.cs (piecesF (Lib.trimSuffix l [10]))).2 ≠ 0) :
    (stepL s l).e = (runP s.cs (piecesF (Lib.trimSuffix l [10]))).2 ∧ (stepL s l).H = s.H + 1 := by
  unfold stepL
  rw [if_neg (fun e => e h), if_neg (by rw [h1]; decide), if_pos h2]
  exact ⟨rfl, rfl⟩
theorem stepL_row {s : PS} {l : List UInt8} (h : s.e = 0) (h1 : Lib.hasSuffix l [10] = true) (h2 : (runP s.cs (piecesF (Lib.trimSuffix l [10]))).2 = 0) :
    stepL s l = PS.mk (if s.H + 1 = 1 then ((piecesF (Lib.trimSuffix l [10])).length : Int) else s.W) (s.H + 1) (runP s.cs (piecesF (Lib.trimSuffix l [10]))).1
      (fitsF (if s.H + 1 = 1 then ((piecesF (Lib.trimSuffix l [10])).length : Int) else s.W) (s.H + 1) ((piecesF (Lib.trimSuffix l [10])).length : Int)) := by
  unfold stepL
  rw [if_neg (fun e => e h), if_neg (by rw [h1]; decide), if_neg (fun e => e h2)]

/-- Between two rows. -/
def LIn (w : World) (pre : List (List UInt8)) (W : World) : Prop := (runL pre).e = 0 ∧ ∃ v, PIn w [(w.heap.size + 3, 9)] (runL pre).W (runL pre).H (runL pre).cs 0 v W
/-- Behind a row that is wrong. -/
def LOut (w : World) (c : Code) (pre : List (List UInt8)) (W : World) : Prop := c = .exit 0 ∧ (runL pre).e ≠ 0 ∧ ∃ a cs v, PIn w [(w.heap.size + 3, 9)] a (runL pre).H cs (runL pre).e v W

theorem lIn_own {w : World} {n : Nat} (hn : w.heap.size ≤ n) : OwnFrom n (LIn w) := by
  rintro pre A B row ⟨he, v, h⟩ hg hr
  exact ⟨he, v, h.later hg (fun r e => .inl ⟨by have := (hr r e).1; omega, (hr r e).2⟩)⟩
theorem lOut_own {w : World} {n : Nat} (hn : w.heap.size ≤ n) (c : Code) : OwnFrom n (LOut w c) := by
  rintro pre A B row ⟨hc, he, a, cs, v, h⟩ hg hr
  exact ⟨hc, he, a, cs, v, h.later hg (fun r e => .inl ⟨by have := (hr r e).1; omega, (hr r e).2⟩)⟩
theorem one_box {A B : World} {r p : Nat} {t : TypeId} (h : p ≤ r ∧ r < p + 1 ∧ SameKind A B r) : ∃ t', (r, t') ∈ [(p, t)] ∧ SameKind A B r := by
  obtain rfl : r = p := by omega
  exact ⟨t, List.mem_singleton.2 rfl, h.2.2⟩
theorem lIn_ab (w : World) : AbP (w.heap.size + 3) 1 (LIn w) := by
  rintro pre A B row ⟨he, v, h⟩ hg hr
  exact ⟨he, v, h.later hg (fun r e => .inr (one_box (hr r e)))⟩
theorem lOut_ab (w : World) (c : Code) : AbP (w.heap.size + 3) 1 (LOut w c) := by
  rintro pre A B row ⟨hc, he, a, cs, v, h⟩ hg hr
  exact ⟨hc, he, a, cs, v, h.later hg (fun r e => .inr (one_box (hr r e)))⟩
theorem al_new (w : World) (o : Obj) : (w.alloc o).heap[w.heap.size]? = some o := heap_alloc_new w o
theorem al_old {w : World} {k : Nat} {o o' : Obj} (h : w.heap[k]? = some o) : (w.alloc o').heap[k]? = some o := (Below.heap_alloc _ _ _ (Array.getElem?_eq_some_iff.1 h).1).trans h
theorem cells_at {W : World} {k : Nat} {c : Array Value} {t : TypeId} {f : Nat × Nat} (h : W.heap[k]? = some (.cells c t f)) (o : Nat) : W.cell? ⟨k, o, none⟩ = c[o]? := by simp [World.cell?, h]
theorem cell_set_other {W : World} {k p o o' : Nat} {u : Value} (h : k ≠ p) : (W.setCell ⟨p, o, none⟩ u).cell? ⟨k, o', none⟩ = W.cell? ⟨k, o', none⟩ :=
  World.cell?_of_block (a := ⟨k, o', none⟩) (Below.heap_setCell W ⟨p, o, none⟩ u k h)
theorem four_new (w : World) (o0 o1 o2 o3 : Obj) : ((((w.alloc o0).alloc o1).alloc o2).alloc o3).heap[w.heap.size]? = some o0 ∧ ((((w.alloc o0).alloc o1).alloc o2).alloc o3).heap[w.heap.size + 1]? = some o1 ∧
    ((((w.alloc o0).alloc o1).alloc o2).alloc o3).heap[w.heap.size + 2]? = some o2 ∧ ((((w.alloc o0).alloc o1).alloc o2).alloc o3).heap[w.heap.size + 3]? = some o3 := by
  have h1 := al_new (w.alloc o0) o1
  have h2 := al_new ((w.alloc o0).alloc o1) o2
  have h3 := al_new (((w.alloc o0).alloc o1).alloc o2) o3
  simp only [World.size_alloc] at h1 h2 h3
  exact ⟨al_old (al_old (al_old (al_new w o0))), al_old (al_old h1), al_old h2, h3⟩

set_option maxRecDepth 100000 in
set_option maxHeartbeats 8000000 in
theorem parse_rows (s : ByteArray) (w : World) (hS : Sits w) (h1 : s.size ≤ 131072) (h2 : s.size ≠ 0) :
    Calls Tryd.prog 20 #[.string s] w fun e w' => Below w.heap.size w w' ∧
      (((runL (linesF s.data.toList)).e = 0 ∧ ∃ v, e = .returned (.tuple #[.agg #[.int .i64 (runL (linesF s.data.toList)).W, .int .i64 (runL (linesF s.data.toList)).H, v], .int .i64 0, .int .i64 0]) ∧
          w'.ownsRow w.heap.size 38 1 v (runL (linesF s.data.toList)).cs.length (cellsH (runL (linesF s.data.toList)).cs)) ∨
       ((runL (linesF s.data.toList)).e ≠ 0 ∧ e = .returned (.tuple #[.agg #[.int .i64 0, .int .i64 0, .slice none 0 0], .int .i64 (runL (linesF s.data.toList)).H, .int .i64 (runL (linesF s.data.toList)).e]))) := by
  have g1 : (s.size : Int) ≤ 131072 := by omega
  have g2 : (s.toList == []) = false := by
    rw [ByteArray.toList_eq]
    apply Bool.eq_false_iff.2
    intro he
    have := LawfulBEq.eq_of_beq he
    apply h2
    have h3 := congrArg List.length this
    rw [Array.length_toList] at h3
    exact h3
  refine (callsIn_wide (n := 11)).1 (callsIn_of_wp_marks Tryd.func20 rfl trivial ?_ rfl)
  simp only [Tryd.ntmps20, List.size_toArray, List.length_cons, List.length_nil, Nat.reduceAdd, Nat.reduceSub, Array.replicate_succ, Array.replicate_zero, List.push_toArray, List.append_toArray, List.nil_append, List.cons_append]
  refine wpIn_wide.2 ?_
  go_wp2
  go_step3
  go_wp2
  go_step3
  go_wp2_with fail
  refine (lines_mk s _).mono ?_
  rintro e w1 ⟨rfl, rfl⟩
  go_wp2_with fail
  obtain ⟨W0, hW0⟩ : ∃ W0, (((w.alloc (.cells #[.int .i64 0, .int .i64 0, .slice none 0 0] 26)).alloc (.cells #[.int .i64 0, .int .i64 0, .slice none 0 0] 26)).alloc (.cells #[.int .i64 0] 33)).alloc (.cells #[.string s] 9) = W0 := ⟨_, rfl⟩
  have hz : W0.heap.size = w.heap.size + 4 := by rw [← hW0]; simp
  have hk0 : Below w.heap.size w W0 := by rw [← hW0]; exact bl_al (bl_al (bl_al (bl_al (bl0 _) _) _) _) _
  obtain ⟨q0, q1, q2, q3⟩ := four_new w (.cells #[.int .i64 0, .int .i64 0, .slice none 0 0] 26) (.cells #[.int .i64 0, .int .i64 0, .slice none 0 0] 26) (.cells #[.int .i64 0] 33) (.cells #[.string s] 9)
  rw [hW0] at q0 q1 q2 q3
  have hb3 : Boxed W0 (w.heap.size + 3) 9 (.string s) := q3
  have hP0 : PIn w [(w.heap.size + 3, 9)] 0 0 [] 0 (.slice none 0 0) W0 := by
    refine ⟨hk0, q0, q2, ?_, q1, World.ownsRow_nil _ _ _ _⟩
    intro x hx
    obtain rfl : x = (w.heap.size + 3, 9) := by simpa using hx
    exact ⟨Nat.le_refl _, (by decide : (9 : Nat) ≠ 38), _, hb3⟩
  rw [hW0]
  clear hW0 q0 q1 q2 q3
  refine wpIn_wide.1 (range_p (w.heap.size + 3) 1 47 #[.pointer (some ⟨w.heap.size + 1 + 1 + 1, 0, none⟩)] (linesF s.data.toList) (iter_lines _ s W0 hb3 (by omega)) rfl (fun _ => rfl) (by omega) (enters_of Tryd.func47 (by kernel_rfl) rfl)
    (LIn w) (LOut w) (lIn_own (by omega)) (fun c => lOut_own (by omega) c) (lIn_ab w) (lOut_ab w) ⟨rfl, _, hP0⟩
    (fun x a' _ => a' = { tmps := #[.string s, undef, .pointer (some ⟨w.heap.size, 0, none⟩), .int .i64 0, .int .i64 0, .pointer (some ⟨w.heap.size + 1, 0, none⟩), .pointer (some ⟨w.heap.size + 1 + 1, 0, none⟩), .string ⟨x.toArray⟩, undef, undef, undef, undef, undef,
          undef, .string s, .int .i64 s.size, .bool (decide (131072 < (s.size : Int))), undef, .string s, .bool false, undef, .agg #[.int .i64 0, .int .i64 0, .slice none 0 0], .string s, .func (.func 47) #[] #[.pointer (some ⟨w.heap.size + 1 + 1 + 1, 0, none⟩)], .string ⟨x.toArray⟩,
          undef, undef, undef, undef, undef, undef, undef, undef, undef, undef, undef, undef, undef, undef, undef, undef, undef, undef, undef, undef, undef, undef, undef, undef, undef, undef, undef, undef, undef, undef, undef, undef, undef, undef, undef, undef, undef, undef, undef, undef, undef, undef, undef, undef, undef, undef, undef, undef, undef, undef, undef, undef, undef], defers := [] })
    (fun _ _ _ _ _ _ hs _ _ => hs) ?assign ?body ?done ?stop)
  case assign =>
    intro l pre x W K hi hK
    simp
    gi_wp2
    exact hK _ _ (KeepsFrom.refl _ _) (KP.refl _ _ _) hi rfl
  case body =>
    rintro l pre x a' W hl ⟨r, hr⟩ ⟨he, v, hP⟩ rfl hpre
    obtain ⟨b1, b2, b3, b4⟩ := runL_ok pre he
    have hxl : x.length ≤ s.data.toList.length := linesF_mem _ _ (prefix_last hpre)
    have hsz : s.data.toList.length = s.size := by rw [Array.length_toList]; rfl
    have f1 := hP.f1
    have z1 := hP.z1 1
    have hP1 := hP.setH ((runL pre).H + 1)
    have hR1 : RIn W0.heap.size (w.heap.size + 3) 1 W (W.setCell ⟨w.heap.size + 1, 1, none⟩ (.int .i64 ((runL pre).H + 1))) := (RIn.refl _ _ _ _).st (by have := hP.lt; have := (Array.getElem?_eq_some_iff.1 hr).1; omega) hP.2.2.2.2.1 (.inl (by omega)) _
    have hr1 : (W.setCell ⟨w.heap.size + 1, 1, none⟩ (.int .i64 ((runL pre).H + 1))).heap[l]? = some (.loop r) := (Below.heap_setCell _ _ _ l (show l ≠ w.heap.size + 1 by omega)).trans hr
    have hzW : w.heap.size + 4 ≤ W.heap.size := by have := (Array.getElem?_eq_some_iff.1 hr).1; omega
    have H1 := Lib.hid hP1
    have H2 := Lib.hid hR1
    have H3 := Lib.hid hS
    have H4 := Lib.hid hr1
    have H5 := Lib.hid he
    clear hP1 hR1 hr1 hP hr hk0 hb3 hP0 hS g2 g1 he
    have hsm := runL_snoc pre x
    generalize runL pre = st at *
    obtain ⟨sW, sH, scs, se⟩ := st
    simp only at *
    subst b3
    gi_wp2_with fail
    refine ⟨trivial, (CallsIn.inRound l (callsIn_wide.2 (Tryd.strings_CutSuffix ⟨x.toArray⟩ ⟨#[10]⟩ _ (by show x.toArray.size ≤ _; rw [List.size_toArray]; omega)))).mono ?_⟩
    rintro e W1 ⟨rfl, rfl⟩
    obtain ⟨bo, hbo⟩ : ∃ bo, Lib.hasSuffix x [10] = bo := ⟨_, rfl⟩
    obtain ⟨ro, hro⟩ : ∃ ro, Lib.trimSuffix x [10] = ro := ⟨_, rfl⟩
    simp only [hbo, hro]
    obtain ⟨V1, hV1⟩ : ∃ V1, W.setCell ⟨w.heap.size + 1, 1, none⟩ (.int .i64 ((pre.length : Int) + 1)) = V1 := ⟨_, rfl⟩
    rw [hV1] at H1 H2 H4 ⊢
    clear hV1 f1 z1
    have fe := H1.out.fe
    have z2 := H1.out.z2
    have hzV : w.heap.size + 4 ≤ V1.heap.size := by have := (Array.getElem?_eq_some_iff.1 H4.out).1; omega
    cases bo with
    | false =>
      have hstp := stepL_form (s := ⟨sW, pre.length, scs, se⟩) (l := x) H5.out hbo
      rw [← hsm] at hstp
      have hE := H1.out.setE 11
      have hRE := H2.out.st (o := 0) (by omega) H1.out.2.2.1 (.inl (by omega)) (.int .i64 11)
      rw [hz] at hRE
      have HE := Lib.hid hE
      have HR := Lib.hid hRE
      have HS := Lib.hid hstp
      clear hE hRE hstp
      gi_wp2
      exact ⟨HR.out.1, rfl, by rw [HS.out.1]; decide, _, _, _, by rw [HS.out.1, HS.out.2]; exact HE.out⟩
    | true =>
      obtain ⟨q0, q1, q2, q3⟩ := four_new V1 (.cells #[.int .i64 0] 3) (.cells #[.string ⟨ro.toArray⟩] 9) (.cells #[.string ⟨#[32]⟩] 9) (.cells #[.int .i64 0] 3)
      gi_wp2_with fail
      refine ⟨trivial, (CallsIn.inRound l (callsIn_wide.2 (split_mk ⟨ro.toArray⟩ ⟨#[32]⟩ _))).mono ?_⟩
      rintro e W2 ⟨rfl, rfl⟩
      simp only [World.size_alloc]
      obtain ⟨V2, hV2⟩ : ∃ V2, (((V1.alloc (.cells #[.int .i64 0] 3)).alloc (.cells #[.string ⟨ro.toArray⟩] 9)).alloc (.cells #[.string ⟨#[32]⟩] 9)).alloc (.cells #[.int .i64 0] 3) = V2 := ⟨_, rfl⟩
      have hzV2 : V2.heap.size = V1.heap.size + 4 := by rw [← hV2]; simp
      have hbV : Below V1.heap.size V1 V2 := by rw [← hV2]; exact bl_al (bl_al (bl_al (bl_al (bl0 _) _) _) _) _
      rw [hV2] at q0 q1 q2 q3
      have hP2 := (H1.out.below hbV).more [(V1.heap.size + 1, 9), (V1.heap.size + 2, 9), (V1.heap.size + 3, 3)] (by
        intro y hy
        simp only [List.mem_cons, List.mem_nil_iff, or_false] at hy
        rcases hy with rfl | rfl | rfl
        · exact ⟨by show _ ≤ V1.heap.size + 1; omega, (by decide : (9 : Nat) ≠ 38), _, q1⟩
        · exact ⟨by show _ ≤ V1.heap.size + 2; omega, (by decide : (9 : Nat) ≠ 38), _, q2⟩
        · exact ⟨by show _ ≤ V1.heap.size + 3; omega, (by decide : (3 : Nat) ≠ 38), _, q3⟩)
      have hR2 := H2.out.below (by omega) hbV
      have hr2 := (hbV.block l (Array.getElem?_eq_some_iff.1 H4.out).1).trans H4.out
      rw [hV2]
      have hL3 : ∀ r, V1.heap.size + 1 ≤ r → r < V1.heap.size + 1 + 3 → ∃ t, (r, t) ∈ [(V1.heap.size + 1, 9), (V1.heap.size + 2, 9), (V1.heap.size + 3, 3)] ++ [(w.heap.size + 3, 9)] := by
        intro r h1 h2
        rcases (show r = V1.heap.size + 1 ∨ r = V1.heap.size + 2 ∨ r = V1.heap.size + 3 by omega) with rfl | rfl | rfl
        · exact ⟨9, by simp⟩
        · exact ⟨9, by simp⟩
        · exact ⟨3, by simp⟩
      have hWV : W.heap.size ≤ V1.heap.size := H2.out.1.size
      have hrol : ro.length ≤ x.length := by
        rw [← hro]
        unfold Lib.trimSuffix
        split
        all_goals first | exact Nat.le_refl _ | (rw [List.length_take]; omega)
      clear hV2 fe z2 hbV H1 H2 H4
      gi_wp2_with fail
      refine range_pn (l₀ := l) (r₀ := r) hr2 (V1.heap.size + 1) 3 59 #[.pointer (some ⟨V1.heap.size + 1 + 1, 0, none⟩), .pointer (some ⟨V1.heap.size + 1, 0, none⟩), .pointer (some ⟨V1.heap.size + 1 + 1 + 1, 0, none⟩)] (piecesF ro)
        (iter_pieces (V1.heap.size + 1) ⟨ro.toArray⟩ V2 q1 q2 q3 (by show ro.toArray.size ≤ _; rw [List.size_toArray]; omega)) rfl (fun _ => rfl) (by omega) (enters_of Tryd.func59 (by kernel_rfl) rfl)
        (JIn w _ W0.heap.size (w.heap.size + 3) V1.heap.size sW (pre.length + 1) scs W) (JOut w _ W0.heap.size (w.heap.size + 3) sW (pre.length + 1) scs W) (jIn_own (by omega) (by omega) (by omega)) (fun c => jOut_own (by omega) (by omega) (by omega) c) (jIn_ab (by omega) (by omega) hL3) (jOut_ab (by omega) (by omega) hL3) ⟨rfl, ⟨_, hP2⟩, q0, hR2⟩
        (fun y a' _ => a' = { tmps := #[.string s, undef, .pointer (some ⟨w.heap.size, 0, none⟩), .int .i64 0, .int .i64 0, .pointer (some ⟨w.heap.size + 1, 0, none⟩), .pointer (some ⟨w.heap.size + 1 + 1, 0, none⟩), .string ⟨x.toArray⟩, .string ⟨ro.toArray⟩, .bool true, .pointer (some ⟨V1.heap.size, 0, none⟩), .string ⟨y.toArray⟩, undef, undef, .string s,
          .int .i64 s.size, .bool (decide (131072 < (s.size : Int))), undef, .string s, .bool false, undef, .agg #[.int .i64 0, .int .i64 0, .slice none 0 0], .string s, .func (.func 47) #[] #[.pointer (some ⟨w.heap.size + 1 + 1 + 1, 0, none⟩)], .string ⟨x.toArray⟩, .pointer (some ⟨w.heap.size + 1, 0, none⟩),
          .pointer (some ⟨w.heap.size + 1, 1, none⟩), .int .i64 pre.length, .int .i64 (pre.length + 1), .pointer (some ⟨w.heap.size + 1, 0, none⟩), .pointer (some ⟨w.heap.size + 1, 1, none⟩), .tuple #[.string ⟨ro.toArray⟩, .bool true], .string ⟨x.toArray⟩, .tuple #[.string ⟨ro.toArray⟩, .bool true], .string ⟨ro.toArray⟩, .bool true, .bool true, .bool false, .string ⟨ro.toArray⟩,
          .func (.func 59) #[] #[.pointer (some ⟨V1.heap.size + 1 + 1, 0, none⟩), .pointer (some ⟨V1.heap.size + 1, 0, none⟩), .pointer (some ⟨V1.heap.size + 1 + 1 + 1, 0, none⟩)], .string ⟨y.toArray⟩, undef, undef, undef, undef, undef, undef, undef, undef, undef, undef, undef, undef, undef, undef, undef, undef, undef, undef, undef, undef, undef, undef, undef, undef, undef, undef, undef, undef, undef, undef, undef, undef, undef, undef, undef, undef, undef], defers := [] })
        (fun _ _ _ _ _ _ hs _ _ => hs) ?assign2 ?body2 ?done2 ?stop2
      case assign2 =>
        intro l pre x W K hi hK
        simp
        gi_wp2
        exact hK _ _ (KeepsFrom.refl _ _) (KP.refl _ _ _) hi rfl
      case body2 =>
        rintro l2 pre2 y a2 W4 hl2 ⟨r2, hr2⟩ ⟨h2, ⟨v2, hQ⟩, hbx, hR⟩ rfl hpre2
        have hyl : y.length ≤ ro.length := piecesF_mem _ _ (prefix_last hpre2)
        have hpl : pre2.length + 1 ≤ (piecesF ro).length := by have := hpre2.length_le; simpa using this
        have hpn := piecesF_len ro
        have hcl := runP_le scs pre2
        have hV4 := hR.1.size
        have hz4 : V1.heap.size + 4 ≤ W4.heap.size := by have := (Array.getElem?_eq_some_iff.1 hr2).1; omega
        have HSN := Lib.hid (runP_snoc scs pre2 y)
        have HQ := Lib.hid hQ
        have HB := Lib.hid hbx
        have HR := Lib.hid hR
        have HE2 := Lib.hid h2
        have hS4 := H3.out.later hQ.base
        clear hQ hbx hR h2 hP2 hR2 q0 q1 q2 q3 hL3
        gi_wp2_with fail
        refine ⟨trivial, (CallsIn.inRound l2 (callsIn_wide.2 (read_any ⟨y.toArray⟩ W4 (by show y.toArray.size ≤ _; rw [List.size_toArray]; omega) hS4))).mono ?_⟩
        rintro e W5 ⟨rfl, hb5⟩
        obtain ⟨ry, hry⟩ : ∃ ry, readF y = ry := ⟨_, rfl⟩
        have hry2 : readF (⟨y.toArray⟩ : ByteArray).data.toList = ry := hry
        rw [hry2]
        obtain ⟨rc, re⟩ := ry
        simp only
        have hstep : runP scs (pre2 ++ [y]) = if re ≠ 0 then ((runP scs pre2).1, re) else ((runP scs pre2).1 ++ [rc], 0) := by
          rw [HSN.out]
          unfold stepP
          rw [if_neg (fun e => e HE2.out), hry]
        have hQ5 := HQ.out.below hb5
        have hR5 := HR.out.below (by omega) hb5
        have hK5 : RIn V2.heap.size (V1.heap.size + 1) 3 W4 W5 := (RIn.refl _ _ _ _).below (by omega) hb5
        have hbx5 := (hb5.block _ (Array.getElem?_eq_some_iff.1 HB.out).1).trans HB.out
        have hz5 := hb5.size
        clear hS4 hb5 hr2 hry hry2
        by_cases hre : re = 0
        · subst hre
          rw [if_neg (fun e => e rfl)] at hstep
          have f2 := hQ5.f2
          have z3 := hQ5.z1 2
          have hwm := cells_at hbx5 0
          have hzm : W5.frozen? ⟨V1.heap.size, 0, none⟩ = false := by simp [World.frozen?, hbx5]
          simp at hwm
          obtain ⟨i0, hi, hz0, hz1, hz2⟩ := info_parts Tryd.infoH
          have A1 := Lib.hid hQ5
          have A2 := Lib.hid hR5
          have A3 := Lib.hid hK5
          have A4 := Lib.hid hstep
          have A5 := Lib.hid hbx5
          have hown := hQ5.own
          clear hR5 hK5 hstep hbx5 HQ HR HB hQ5
          gi_wp2_with (gi_at_builtin; refine wpListIn_append_own _ rfl _ _ 24 rfl w.heap.size 38 i0 (.int .u16 0) 1 2 Tryd.underlying24 hi hz0 hz1 hz2 rfl (by decide) _ _ _ rfl (hown.alloc _) ⟨W5.heap.size, 0, none⟩ 1 1 [.int .u16 rc] rfl rfl ?c1 ?c2 ?c3 ?c4 ?c5 ?_)
          case c1 => exact cell_one_new _ _ _
          case c2 => intro u hu; simp at hu; rcases hu with rfl; rfl
          case c3 => unfold maxLen; omega
          case c4 => omega
          case c5 => rw [World.size_alloc]; omega
          intro v' w1 hown' hgrow _
          obtain ⟨hP6, hg6⟩ := A1.out.put hgrow hown'
          obtain ⟨g', cap', rfl⟩ := ownsRow_succ hown'
          have hnr : ∀ {k : Nat} {t : TypeId}, TypAt W5 k t → t ≠ 38 → v2.ownBlock ≠ some k := fun h1 h2 => TypAt.not_row h1 h2 A1.out.own
          have hcell : ∀ r, v2.ownBlock = some r → ∃ cs t, W5.heap[r]? = some (.cells cs t (0, 0)) := by
            intro r he
            rcases A1.out.own.2 with ⟨e1, _⟩ | ⟨g, cap, cur, e1, _, hg, _⟩
            · rw [e1] at he; cases he
            · rw [e1] at he; simp [Value.ownBlock] at he; subst he; exact ⟨_, _, hg⟩
          have hL := A1.out.2.2.2.1
          have n1 := hnr (hL (V1.heap.size + 1, 9) (by simp)).2.2 (hL (V1.heap.size + 1, 9) (by simp)).2.1
          have n2 := hnr (hL (V1.heap.size + 2, 9) (by simp)).2.2 (hL (V1.heap.size + 2, 9) (by simp)).2.1
          have n3 := hnr (hL (V1.heap.size + 3, 3) (by simp)).2.2 (hL (V1.heap.size + 3, 3) (by simp)).2.1
          have n4 := hnr (hL (w.heap.size + 3, 9) (by simp)).2.2 (hL (w.heap.size + 3, 9) (by simp)).2.1
          have n5 := hnr ⟨_, A5.out⟩ (by decide : (3 : Nat) ≠ 38)
          have hR6 := A2.out.step (by omega) hg6 (fun r he => ⟨by
            have : r ≠ w.heap.size + 3 := fun e => n4 (by rw [he, e])
            omega, hcell r he⟩)
          have hK6 := A3.out.step (by omega) hg6 (fun r he => ⟨by
            have : r ≠ V1.heap.size + 1 := fun e => n1 (by rw [he, e])
            have : r ≠ V1.heap.size + 2 := fun e => n2 (by rw [he, e])
            have : r ≠ V1.heap.size + 3 := fun e => n3 (by rw [he, e])
            omega, hcell r he⟩)
          have hF6 := cells_later hg6 A1.out.2.2.2.2.1 (hnr ⟨_, A1.out.2.2.2.2.1⟩ (by decide : (26 : Nat) ≠ 38))
          have hb6 := cells_later hg6 A5.out n5
          have hz6 := hg6.size
          have hR7 := hR6.st (o := 2) (by omega) hF6 (.inl (by omega)) (.slice (some ⟨g', 0, none⟩) ((runP scs pre2).1.length + 1) cap')
          have hK7 := hK6.st (o := 2) (by omega) hF6 (.inl (by omega)) (.slice (some ⟨g', 0, none⟩) ((runP scs pre2).1.length + 1) cap')
          have hb7 := (Below.heap_setCell w1 ⟨w.heap.size + 1, 2, none⟩ (.slice (some ⟨g', 0, none⟩) ((runP scs pre2).1.length + 1) cap') V1.heap.size (show V1.heap.size ≠ w.heap.size + 1 by omega)).trans hb6
          have c6 := cells_at hF6 2
          have d6 : w1.frozen? ⟨w.heap.size + 1, 2, none⟩ = false := by simp [World.frozen?, hF6]
          have c7 := cells_at hb7 0
          have d7 : (w1.setCell ⟨w.heap.size + 1, 2, none⟩ (.slice (some ⟨g', 0, none⟩) ((runP scs pre2).1.length + 1) cap')).frozen? ⟨V1.heap.size, 0, none⟩ = false := by simp only [World.frozen?, hb7]; simp
          simp at c6 c7
          have hP8 := hP6.setO (o := 0) (show w.heap.size + 3 ≤ V1.heap.size by omega) ⟨_, hb7⟩ (by decide : (3 : Nat) ≠ 38) (.int .i64 (pre2.length + 1))
          have hR8 := hR7.st (o := 0) (by rw [World.size_setCell]; omega) hb7 (.inr (by omega)) (.int .i64 (pre2.length + 1))
          have hK8 := hK7.st (o := 0) (by rw [World.size_setCell]; omega) hb7 (.inl (by omega)) (.int .i64 (pre2.length + 1))
          have hb8 := heap_setCell_same _ V1.heap.size 0 _ _ (.int .i64 (pre2.length + 1)) hb7
          have B1 := Lib.hid hP8
          have B2 := Lib.hid hR8
          have B3 := Lib.hid hK8
          have B4 := Lib.hid hb8
          clear hP8 hR8 hK8 hb8 hP6 hR6 hK6 hR7 hK7 hF6 hb6 hb7 hg6 hgrow hown' hown hcell hL n1 n2 n3 n4 n5 A1 A2 A3 A5 f2 z3 hwm hzm
          gi_wp2
          refine ⟨B3.out.1, B3.out.2, by rw [A4.out], ⟨_, by rw [A4.out]; exact B1.out⟩, ?_, B2.out⟩
          have h := B4.out
          simp at h ⊢
          exact h
        · have hre2 : (re != 0) = true := by rw [bne_iff_ne]; exact hre
          rw [if_pos hre] at hstep
          have fe := hQ5.fe
          have z2 := hQ5.z2
          have hE := hQ5.setE re
          have hRE := hR5.st (o := 0) (by omega) hQ5.2.2.1 (.inl (by omega)) (.int .i64 re)
          have hKE := hK5.st (o := 0) (by omega) hQ5.2.2.1 (.inl (by omega)) (.int .i64 re)
          have A1 := Lib.hid hE
          have A2 := Lib.hid hRE
          have A3 := Lib.hid hKE
          have A4 := Lib.hid hstep
          have A5 := Lib.hid hre
          clear hE hRE hKE hstep hQ5 hR5 hK5 hbx5 hre HQ HR HB
          gi_wp2
          exact ⟨A3.out.1, rfl, by rw [A4.out]; exact A5.out, ⟨_, _, by rw [A4.out]; exact A1.out⟩, A2.out⟩
      case done2 =>
        rintro W5 ⟨h2, ⟨v5, hQ⟩, hbx, hR⟩
        have hstp := stepL_row (s := ⟨sW, pre.length, scs, se⟩) (l := x) H5.out hbo (by rw [hro]; exact h2)
        rw [← hsm, hro] at hstp
        have hQ6 := hQ.less (L' := [(w.heap.size + 3, 9)]) (fun z hz => List.mem_append_right _ hz)
        have hpl := piecesF_len ro
        have c0 := cells_at hbx 0
        simp at c0
        have hz5 := hR.1.size
        have f0 := hQ6.f0
        have f1 := hQ6.f1
        have fe := hQ6.fe
        have z0 := hQ6.z1 0
        obtain ⟨nn, hnn⟩ : ∃ nn, (piecesF ro).length = nn := ⟨_, rfl⟩
        rw [hnn] at hpl c0
        by_cases hp0 : pre.length = 0
        · have hp1 : (pre.length : Int) = 0 := by omega
          have hP6 := hQ6.setW (nn : Int)
          have hR6 := hR.st (o := 0) (by omega) hQ6.2.2.2.2.1 (.inl (by omega)) (.int .i64 nn)
          have c1 := (cell_set_other (k := V1.heap.size) (p := w.heap.size + 1) (o := 0) (o' := 0) (u := .int .i64 nn) (by omega)).trans c0
          have g0 := hP6.f0
          have g1 := hP6.f1
          rw [hp1] at *
          gi_wp2_with fail
          refine ⟨trivial, (CallsIn.inRound l (callsIn_wide.2 (fits_any _ _ _ _))).mono ?_⟩
          rintro e W7 ⟨rfl, hb7⟩
          obtain ⟨fv, hfv⟩ : ∃ fv, fitsF (nn : Int) 1 (nn : Int) = fv := ⟨_, rfl⟩
          rw [hfv]
          have hz7 := hb7.size
          try rw [World.size_setCell] at hz7
          have hP7 := hP6.below hb7
          have hR7 := hR6.below (by first | omega | (rw [World.size_setCell]; omega)) hb7
          have fe7 := hP7.fe
          have z7 := hP7.z2
          have hP8 := hP7.setE fv
          have hR8 := hR7.st (o := 0) (by omega) hP7.2.2.1 (.inl (by omega)) (.int .i64 fv)
          have hst2 : runL (pre ++ [x]) = PS.mk (nn : Int) 1 (runP scs (piecesF ro)).1 fv := by rw [hstp, hnn, ← hfv]; simp [hp0]
          have B1 := Lib.hid hP8
          have B2 := Lib.hid hR8
          have B3 := Lib.hid hst2
          clear hP8 hR8 hst2 hP7 hR7 hP6 hR6 hb7 hstp hQ6 hR hbx hQ hfv
          by_cases hf : fv = 0
          · subst hf
            gi_wp2
            exact ⟨B2.out.1, B2.out.2, by rw [B3.out], _, by rw [B3.out]; exact B1.out⟩
          · have hf2 : (fv != 0) = true := by rw [bne_iff_ne]; exact hf
            have B4 := Lib.hid hf
            clear hf
            gi_wp2
            exact ⟨B2.out.1, rfl, by rw [B3.out]; exact B4.out, _, _, _, by rw [B3.out]; exact B1.out⟩
        · have hp1 : ((pre.length : Int) + 1 == 1) = false := by rw [beq_eq_false_iff_ne]; omega
          have hP6 := hQ6
          have hR6 := hR
          gi_wp2_with fail
          refine ⟨trivial, (CallsIn.inRound l (callsIn_wide.2 (fits_any _ _ _ _))).mono ?_⟩
          rintro e W7 ⟨rfl, hb7⟩
          obtain ⟨fv, hfv⟩ : ∃ fv, fitsF sW ((pre.length : Int) + 1) (nn : Int) = fv := ⟨_, rfl⟩
          rw [hfv]
          have hz7 := hb7.size
          try rw [World.size_setCell] at hz7
          have hP7 := hP6.below hb7
          have hR7 := hR6.below (by first | omega | (rw [World.size_setCell]; omega)) hb7
          have fe7 := hP7.fe
          have z7 := hP7.z2
          have hP8 := hP7.setE fv
          have hR8 := hR7.st (o := 0) (by omega) hP7.2.2.1 (.inl (by omega)) (.int .i64 fv)
          have hst2 : runL (pre ++ [x]) = PS.mk sW ((pre.length : Int) + 1) (runP scs (piecesF ro)).1 fv := by rw [hstp, hnn, ← hfv]; simp [show ¬ ((pre.length : Int) + 1 = 1) by omega]
          have B1 := Lib.hid hP8
          have B2 := Lib.hid hR8
          have B3 := Lib.hid hst2
          clear hP8 hR8 hst2 hP7 hR7 hP6 hR6 hb7 hstp hQ6 hR hbx hQ hfv
          by_cases hf : fv = 0
          · subst hf
            gi_wp2
            exact ⟨B2.out.1, B2.out.2, by rw [B3.out], _, by rw [B3.out]; exact B1.out⟩
          · have hf2 : (fv != 0) = true := by rw [bne_iff_ne]; exact hf
            have B4 := Lib.hid hf
            clear hf
            gi_wp2
            exact ⟨B2.out.1, rfl, by rw [B3.out]; exact B4.out, _, _, _, by rw [B3.out]; exact B1.out⟩
      case stop2 =>
        rintro c q W5 hq ⟨rfl, h2, ⟨cs5, v5, hQ⟩, hR⟩
        have hrp := runP_prefix hq h2
        have hstp := stepL_cost (s := ⟨sW, pre.length, scs, se⟩) (l := x) H5.out hbo (by rw [hro, hrp]; exact h2)
        rw [← hsm, hro, hrp] at hstp
        have hQ6 := hQ.less (L' := [(w.heap.size + 3, 9)]) (fun z hz => List.mem_append_right _ hz)
        rw [hz] at hR
        have A1 := Lib.hid hQ6
        have A2 := Lib.hid hR
        have A3 := Lib.hid hstp
        have A4 := Lib.hid h2
        clear hQ6 hR hstp hQ hrp h2 hP2 hR2 q0 q1 q2 q3 hL3
        gi_wp2
        exact ⟨A2.out.1, rfl, by rw [A3.out.1]; exact A4.out, _, _, _, by rw [A3.out.1, A3.out.2]; exact A1.out⟩
  case done =>
    rintro D W hD ⟨he, v, hP⟩ hK
    have f0 := hP.f0
    have f1 := hP.f1
    have f2 := hP.f2
    have fe := hP.fe
    have r0 := hP.r0
    have r1 := hP.r1
    have r2 := hP.r2
    have zr := hP.zr
    obtain ⟨⟨pv, cv, rfl⟩, hd, hbl, hrow, hfin⟩ := hP.ret hD (by omega) hK
    have HF := Lib.hid hfin
    have HD := Lib.hid hd
    have HB := Lib.hid hbl
    have HR := Lib.hid hrow
    have HE := Lib.hid he
    clear hP hd hbl hrow hfin hK he hS hb3 hP0 hk0
    go_wp2
    rw [Exit.noGoto_ret]
    refine ⟨by simp, .inl ⟨_, _, rfl, run_takeDeferred HD.out, ?_⟩⟩
    have k0 := cells_at HF.out 0
    have k1 := cells_at HF.out 1
    have k2 := cells_at HF.out 2
    simp at k0 k1 k2
    exact ⟨.tuple #[.agg #[.int .i64 (runL (linesF s.data.toList)).W, .int .i64 (runL (linesF s.data.toList)).H, .slice pv (runL (linesF s.data.toList)).cs.length cv], .int .i64 0, .int .i64 0], by simp [results, Tryd.results20, go_sem, k0, k1, k2], HB.out, .inl ⟨HE.out, _, rfl, HR.out⟩⟩
  case stop =>
    rintro D c q W hD hq ⟨rfl, he, a, cs, v, hP⟩ hK
    have hrl := runL_prefix hq he
    have f1 := hP.f1
    have fe := hP.fe
    have r0 := hP.r0
    have r1 := hP.r1
    have r2 := hP.r2
    have zr := hP.zr
    obtain ⟨hd, hbl, hfin⟩ := hP.noret hD (by omega) hK
    have HF := Lib.hid hfin
    have HD := Lib.hid hd
    have HB := Lib.hid hbl
    have HE := Lib.hid he
    have HL := Lib.hid hrl
    clear hP hd hbl hfin hK hS hb3 hP0 hk0 hrl
    have he2 : ((runL q).e != 0) = true := by rw [bne_iff_ne]; exact he
    clear he
    generalize hq1 : (runL q).e = qe at *
    generalize hq2 : (runL q).H = qh at *
    have H1 := Lib.hid hq1
    have H2 := Lib.hid hq2
    clear hq1 hq2
    refine wpIn_wide.2 ?_
    go_wp2
    go_region
    all_goals
      go_wp2
      rw [Exit.noGoto_ret]
      refine ⟨by simp, .inl ⟨_, _, rfl, run_takeDeferred HD.out, ?_⟩⟩
      have k0 := cells_at HF.out 0
      have k1 := cells_at HF.out 1
      have k2 := cells_at HF.out 2
      simp at k0 k1 k2
      exact ⟨.tuple #[.agg #[.int .i64 0, .int .i64 0, .slice none 0 0], .int .i64 qh, .int .i64 qe], by simp [results, Tryd.results20, go_sem, k0, k1, k2], HB.out, .inr ⟨by rw [HL.out, H1.out]; exact HE.out, by rw [HL.out, H1.out, H2.out]⟩⟩
end Go.Proofs.YthnpoeobieninaaDoor
