/- A search by guess: the reference's search. -/
import Derived.Test.YtldpajfendkhbaaDoorNz
namespace Go.Proofs.YtldpajfendkhbaaDoor
open Go.RowKit

def bestI : Option Nat → Int
  | none => -1
  | some b => (b : Int)
/-- How the reference tells. -/
def RefQ (t : Told) (e : Ending) (W : World) : Prop := ∃ pa pc, e = .returned (.tuple #[.agg #[.slice pa t.P.length pc, .int .u64 t.C, .int .i64 t.M], .int .i64 t.E]) ∧ RowC W pa t.P
theorem best_not {s : AS} {h : Nat → Int} {i : Nat} (hi : s.st i ≠ 1) : bestTo s h (i + 1) = bestTo s h i := by
  rw [bestTo]
  cases bestTo s h i with
  | none => simp only [if_neg hi]
  | some b => simp only [if_neg (fun q : s.st i = 1 ∧ _ => hi q.1)]
theorem best_one {s : AS} {h : Nat → Int} {i : Nat} (hi : s.st i = 1) (hb : bestTo s h i = none) : bestTo s h (i + 1) = some i := by
  rw [bestTo, hb]
  simp only [if_pos hi]
theorem best_two {s : AS} {h : Nat → Int} {i b : Nat} (hi : s.st i = 1) (hb : bestTo s h i = some b) : bestTo s h (i + 1) = if lessA s.g h i b = true then some i else some b := by
  rw [bestTo, hb]
  simp only
  by_cases e : lessA s.g h i b = true
  · rw [if_pos ⟨hi, e⟩, if_pos e]
  · rw [if_neg (fun q => e q.2), if_neg e]
theorem tm_cell {A : Int} {i : Nat} : ((i : Nat) : Int).tmod A = (cellN A i).1 := Int.tmod_eq_emod_of_nonneg (Int.natCast_nonneg i)
theorem td_cell {A : Int} {i : Nat} (hA : 1 ≤ A) : ((i : Nat) : Int).tdiv A = (cellN A i).2 ∧ (-9223372036854775808 ≤ (i : Int) → (i : Int) ≤ 1048576 → IntKind.i64.wrap (cellN A i).2 = (cellN A i).2) := by
  refine ⟨Int.tdiv_eq_ediv_of_nonneg (Int.natCast_nonneg i), fun _ h => ?_⟩
  have h1 : (cellN A i).2 = (i : Int) / A := rfl
  rw [h1]
  exact IntWalk.i64_in _ (by have := Int.ediv_nonneg (Int.natCast_nonneg i) (show 0 ≤ A by omega); have := Int.ediv_le_self A (Int.natCast_nonneg i); omega)
/-- A list's number at a place; -1 behind its end. -/
def ixL (L : List Nat) (k : Nat) : Int := match L[k]? with
  | some x => (x : Int)
  | none => -1
def lenOf : Value → Nat
  | .slice _ k _ => k
  | _ => 0
theorem rowC_other {W : World} {pa : Option Addr} {xs : List IC} {z o : Nat} {v : Value} (h : RowC W pa xs) (hp : ∀ b i, pa = some ⟨b, i, none⟩ → b ≠ z) : RowC (W.setCell ⟨z, o, none⟩ v) pa xs := by
  rcases h with h | ⟨b, i, e, h⟩
  · exact .inl h
  · have hk := KeptS.of_grown (S := fun x => x = z) (hgrown_set W z o v) (fun x e _ => by cases e; rfl)
    exact .inr ⟨b, i, e, fun k c hc => ⟨hk.cell (h k c hc).1 (hp b i e), hk.cell (h k c hc).2 (hp b i e)⟩⟩
theorem Tryd.infoI : (Tryd.prog.info? 3).map (fun i => (i.zero, i.size, i.bytes)) = some (some (.int .i64 0), 1, 8) := by kernel_rfl
theorem make_intS (n : Nat) (hn : n ≤ 1048576) (w : World) : (Instr.makeSlice 60 (.int .i64 (n : Int)) (.int .i64 (n : Int))).run Tryd.prog w = .ok (.slice (some ⟨w.heap.size, 0, none⟩) n n) (w.alloc (.cells (Array.replicate n (Value.int .i64 0)) 3)) := by
  have := run_make_row' (P := Tryd.prog) 60 3 (.int .i64 0) 8 Tryd.underlying60 Tryd.infoI rfl .i64 .i64 n (by omega) (by omega) w
  have e : madeCells (Value.int .i64 0).cells (n * 1) = Array.replicate n (Value.int .i64 0) := by
    apply Array.ext
    · simp [madeCells]
    · intro i h1 h2
      simp [madeCells, Value.cells, Nat.mod_one]
  first | exact this | (rw [show madeCells #[Value.int .i64 0] n = Array.replicate n (Value.int .i64 0) by apply Array.ext <;> simp [madeCells, Nat.mod_one]] at this; exact this)

set_option maxRecDepth 100000 in
set_option maxHeartbeats 8000000 in
theorem rfindS_any (A H : Int) (a : Option Addr) (cap : Nat) (zs : List Int) (s0 goal : Nat) (budget : Int) (d : Nat → Int) (w : World) (hr : RowH w a zs) (hz : AllH zs) (hm : mayB A H = true) (hn : (zs.length : Int) = A * H) (hs0 : (s0 : Int) < A * H) (hgl : (goal : Int) < A * H) (hb : 0 ≤ budget) (hF : Far (gph A H zs) s0 d) :
    Calls Tryd.prog 13 #[.agg #[.int .i64 A, .int .i64 H, .slice a zs.length cap], .agg #[.int .i64 (cellN A s0).1, .int .i64 (cellN A s0).2], .agg #[.int .i64 (cellN A goal).1, .int .i64 (cellN A goal).2], .int .i64 budget] w fun e w' => RefQ (seekT A H zs (cellN A s0) (cellN A goal) budget) e w' ∧ Below w.heap.size w w' := by
  have hA := bl0 w
  have hoF := cellN_on hm hs0
  have hoT := cellN_on hm hgl
  have hnF := numN_cell hm hs0
  have hnT := numN_cell hm hgl
  have hck : chkF A H (zs.length : Nat) = 0 := by unfold chkF; rw [if_pos hm, if_pos hn]
  have hE : errS A H zs.length (cellN A s0) (cellN A goal) budget = 0 := by unfold errS; rw [if_neg (fun q => q hck), if_pos ⟨hoF, hoT⟩, if_neg (by omega)]
  have HCO := Lib.hid (fun W (c : IC) (hc : onB A H c = true) (h : RowH W a zs) => rcostS_any A H a cap zs c W h hz hc hn)
  have HC1 := Lib.hid (fun W h => HCO.out W _ hoF h)
  have HC2 := Lib.hid (fun W h => HCO.out W _ hoT h)
  rw [hnF] at HC1
  rw [hnT] at HC2
  have HRH := Lib.hid (fun W (h : Below w.heap.size w W) => hr.below h)
  by_cases hw : zs.getD s0 0 = 0 ∨ zs.getD goal 0 = 0
  case pos =>
    have HS := Lib.hid (show seekT A H zs (cellN A s0) (cellN A goal) budget = ⟨22, [], 0, 0⟩ from seek_wall hE (by unfold wallT; rw [hnF, hnT]; exact decide_eq_true hw))
    rw [HS.out]
    clear HS hE hck hnF hnT hoF hoT hF hb hs0 hgl hm hn hr
    by_cases k1 : zs.getD s0 0 = 0
    · rw [k1] at HC1
      clear hw k1
      generalize cellN A s0 = F at *
      generalize cellN A goal = T at *
      go_enter Tryd.func13, Tryd.ntmps13
      go_wp2_with fail
      refine (HC1.out _ (HRH.out _ (by first | exact hA | exact (bl_al hA _) | exact (bl_dr (bl_al hA _)) | exact (bl_al (bl_al hA _) _) | exact (bl_dr (bl_al (bl_al hA _) _)) | exact (bl_al (bl_al (bl_al hA _) _) _) | exact (bl_dr (bl_al (bl_al (bl_al hA _) _) _)) | exact (bl_al (bl_al (bl_al (bl_al hA _) _) _) _) | exact (bl_dr (bl_al (bl_al (bl_al (bl_al hA _) _) _) _)) | exact (bl_al (bl_al (bl_al (bl_al (bl_al hA _) _) _) _) _) | exact (bl_dr (bl_al (bl_al (bl_al (bl_al (bl_al hA _) _) _) _) _)) | exact (bl_al (bl_al (bl_al (bl_al (bl_al (bl_al hA _) _) _) _) _) _) | exact (bl_dr (bl_al (bl_al (bl_al (bl_al (bl_al (bl_al hA _) _) _) _) _) _)) | exact (bl_dr hA)))).mono ?_
      rintro e W1 ⟨rfl, hb⟩
      have hk : Below w.heap.size w W1 := by first | exact hb | exact bl_tr (bl_al (bl0 _) _) hb | exact bl_tr (bl_dr (bl_al (bl0 _) _)) hb | exact bl_tr (bl_al (bl_al (bl0 _) _) _) hb | exact bl_tr (bl_dr (bl_al (bl_al (bl0 _) _) _)) hb | exact bl_tr (bl_al (bl_al (bl_al (bl0 _) _) _) _) hb | exact bl_tr (bl_dr (bl_al (bl_al (bl_al (bl0 _) _) _) _)) hb | exact bl_tr (bl_al (bl_al (bl_al (bl_al (bl0 _) _) _) _) _) hb | exact bl_tr (bl_dr (bl_al (bl_al (bl_al (bl_al (bl0 _) _) _) _) _)) hb | exact bl_tr (bl_al (bl_al (bl_al (bl_al (bl_al (bl0 _) _) _) _) _) _) hb | exact bl_tr (bl_dr (bl_al (bl_al (bl_al (bl_al (bl_al (bl0 _) _) _) _) _) _)) hb | exact bl_tr (bl_al (bl_al (bl_al (bl_al (bl_al (bl_al (bl0 _) _) _) _) _) _) _) hb | exact bl_tr (bl_dr (bl_al (bl_al (bl_al (bl_al (bl_al (bl_al (bl0 _) _) _) _) _) _) _)) hb | exact bl_tr (bl_dr (bl0 _)) hb
      replace hA := bl_tr hA hk
      have r0 := cell_later hb (v := .slice none 0 0) (a := ⟨w.heap.size + 1 + 1 + 1, 0, none⟩) (by simp [go_sem])
      have r1 := cell_later hb (v := .int .u64 0) (a := ⟨w.heap.size + 1 + 1 + 1, 1, none⟩) (by simp [go_sem])
      have r2 := cell_later hb (v := .int .i64 0) (a := ⟨w.heap.size + 1 + 1 + 1, 2, none⟩) (by simp [go_sem])
      have q0 : W1.frozen? ⟨w.heap.size + 1 + 1 + 1, 0, none⟩ = false := (hb.frozen (p := ⟨w.heap.size + 1 + 1 + 1, 0, none⟩) (by simp <;> omega)).trans (by simp [go_sem])
      have q1 : W1.frozen? ⟨w.heap.size + 1 + 1 + 1, 1, none⟩ = false := (hb.frozen (p := ⟨w.heap.size + 1 + 1 + 1, 1, none⟩) (by simp <;> omega)).trans (by simp [go_sem])
      have q2 : W1.frozen? ⟨w.heap.size + 1 + 1 + 1, 2, none⟩ = false := (hb.frozen (p := ⟨w.heap.size + 1 + 1 + 1, 2, none⟩) (by simp <;> omega)).trans (by simp [go_sem])
      clear hb hk
      have zr0 := blk_lt r0
      have zr1 := blk_lt r1
      have zr2 := blk_lt r2
      go_wp2
      refine bodyPost_ret (v := .tuple #[.agg #[.slice none 0 0, .int .u64 0, .int .i64 0], .int .i64 22]) (by simp [results, Tryd.results13, go_sem, r0, r1, r2]) rfl ⟨⟨none, 0, rfl, .inl rfl⟩, ?_⟩
      exact bl_st (bl_st (bl_st hA (by omega) _) (by omega) _) (by omega) _
    · have k2 : zs.getD goal 0 = 0 := hw.resolve_left k1
      have k1b : (zs.getD s0 0 == (0 : Int)) = false := by rw [beq_eq_false_iff_ne]; exact k1
      rw [k2] at HC2
      clear hw k1 k2
      generalize zs.getD s0 0 = kF at *
      generalize cellN A s0 = F at *
      generalize cellN A goal = T at *
      go_enter Tryd.func13, Tryd.ntmps13
      go_wp2_with fail
      refine (HC1.out _ (HRH.out _ (by first | exact hA | exact (bl_al hA _) | exact (bl_dr (bl_al hA _)) | exact (bl_al (bl_al hA _) _) | exact (bl_dr (bl_al (bl_al hA _) _)) | exact (bl_al (bl_al (bl_al hA _) _) _) | exact (bl_dr (bl_al (bl_al (bl_al hA _) _) _)) | exact (bl_al (bl_al (bl_al (bl_al hA _) _) _) _) | exact (bl_dr (bl_al (bl_al (bl_al (bl_al hA _) _) _) _)) | exact (bl_al (bl_al (bl_al (bl_al (bl_al hA _) _) _) _) _) | exact (bl_dr (bl_al (bl_al (bl_al (bl_al (bl_al hA _) _) _) _) _)) | exact (bl_al (bl_al (bl_al (bl_al (bl_al (bl_al hA _) _) _) _) _) _) | exact (bl_dr (bl_al (bl_al (bl_al (bl_al (bl_al (bl_al hA _) _) _) _) _) _)) | exact (bl_dr hA)))).mono ?_
      rintro e W1 ⟨rfl, hb⟩
      have hk : Below w.heap.size w W1 := by first | exact hb | exact bl_tr (bl_al (bl0 _) _) hb | exact bl_tr (bl_dr (bl_al (bl0 _) _)) hb | exact bl_tr (bl_al (bl_al (bl0 _) _) _) hb | exact bl_tr (bl_dr (bl_al (bl_al (bl0 _) _) _)) hb | exact bl_tr (bl_al (bl_al (bl_al (bl0 _) _) _) _) hb | exact bl_tr (bl_dr (bl_al (bl_al (bl_al (bl0 _) _) _) _)) hb | exact bl_tr (bl_al (bl_al (bl_al (bl_al (bl0 _) _) _) _) _) hb | exact bl_tr (bl_dr (bl_al (bl_al (bl_al (bl_al (bl0 _) _) _) _) _)) hb | exact bl_tr (bl_al (bl_al (bl_al (bl_al (bl_al (bl0 _) _) _) _) _) _) hb | exact bl_tr (bl_dr (bl_al (bl_al (bl_al (bl_al (bl_al (bl0 _) _) _) _) _) _)) hb | exact bl_tr (bl_al (bl_al (bl_al (bl_al (bl_al (bl_al (bl0 _) _) _) _) _) _) _) hb | exact bl_tr (bl_dr (bl_al (bl_al (bl_al (bl_al (bl_al (bl_al (bl0 _) _) _) _) _) _) _)) hb | exact bl_tr (bl_dr (bl0 _)) hb
      replace hA := bl_tr hA hk
      have x0 := cell_later hb (v := .int .i64 A) (a := ⟨w.heap.size, 0, none⟩) (by simp [go_sem])
      have x1 := cell_later hb (v := .int .i64 H) (a := ⟨w.heap.size, 1, none⟩) (by simp [go_sem])
      have x2 := cell_later hb (v := .slice a zs.length cap) (a := ⟨w.heap.size, 2, none⟩) (by simp [go_sem])
      have z0 := cell_later hb (v := .int .i64 T.1) (a := ⟨w.heap.size + 1 + 1, 0, none⟩) (by simp [go_sem])
      have z1 := cell_later hb (v := .int .i64 T.2) (a := ⟨w.heap.size + 1 + 1, 1, none⟩) (by simp [go_sem])
      have r0 := cell_later hb (v := .slice none 0 0) (a := ⟨w.heap.size + 1 + 1 + 1, 0, none⟩) (by simp [go_sem])
      have r1 := cell_later hb (v := .int .u64 0) (a := ⟨w.heap.size + 1 + 1 + 1, 1, none⟩) (by simp [go_sem])
      have r2 := cell_later hb (v := .int .i64 0) (a := ⟨w.heap.size + 1 + 1 + 1, 2, none⟩) (by simp [go_sem])
      have q0 : W1.frozen? ⟨w.heap.size + 1 + 1 + 1, 0, none⟩ = false := (hb.frozen (p := ⟨w.heap.size + 1 + 1 + 1, 0, none⟩) (by simp <;> omega)).trans (by simp [go_sem])
      have q1 : W1.frozen? ⟨w.heap.size + 1 + 1 + 1, 1, none⟩ = false := (hb.frozen (p := ⟨w.heap.size + 1 + 1 + 1, 1, none⟩) (by simp <;> omega)).trans (by simp [go_sem])
      have q2 : W1.frozen? ⟨w.heap.size + 1 + 1 + 1, 2, none⟩ = false := (hb.frozen (p := ⟨w.heap.size + 1 + 1 + 1, 2, none⟩) (by simp <;> omega)).trans (by simp [go_sem])
      clear hb hk
      have zx0 := blk_lt x0
      have zx1 := blk_lt x1
      have zx2 := blk_lt x2
      have zz0 := blk_lt z0
      have zz1 := blk_lt z1
      have zr0 := blk_lt r0
      have zr1 := blk_lt r1
      have zr2 := blk_lt r2
      go_wp2_with fail
      refine (HC2.out _ (HRH.out _ hA)).mono ?_
      rintro e W2 ⟨rfl, hb⟩
      have hk : Below W1.heap.size W1 W2 := by first | exact hb | exact bl_tr (bl_al (bl0 _) _) hb | exact bl_tr (bl_dr (bl_al (bl0 _) _)) hb | exact bl_tr (bl_al (bl_al (bl0 _) _) _) hb | exact bl_tr (bl_dr (bl_al (bl_al (bl0 _) _) _)) hb | exact bl_tr (bl_al (bl_al (bl_al (bl0 _) _) _) _) hb | exact bl_tr (bl_dr (bl_al (bl_al (bl_al (bl0 _) _) _) _)) hb | exact bl_tr (bl_al (bl_al (bl_al (bl_al (bl0 _) _) _) _) _) hb | exact bl_tr (bl_dr (bl_al (bl_al (bl_al (bl_al (bl0 _) _) _) _) _)) hb | exact bl_tr (bl_al (bl_al (bl_al (bl_al (bl_al (bl0 _) _) _) _) _) _) hb | exact bl_tr (bl_dr (bl_al (bl_al (bl_al (bl_al (bl_al (bl0 _) _) _) _) _) _)) hb | exact bl_tr (bl_al (bl_al (bl_al (bl_al (bl_al (bl_al (bl0 _) _) _) _) _) _) _) hb | exact bl_tr (bl_dr (bl_al (bl_al (bl_al (bl_al (bl_al (bl_al (bl0 _) _) _) _) _) _) _)) hb | exact bl_tr (bl_dr (bl0 _)) hb
      replace hA := bl_tr hA hk
      replace q0 := frozen_later hk r0 q0
      replace q1 := frozen_later hk r1 q1
      replace q2 := frozen_later hk r2 q2
      replace x0 := cell_later hk x0
      replace r0 := cell_later hk r0
      replace r1 := cell_later hk r1
      replace r2 := cell_later hk r2
      clear hb hk
      have zx0 := blk_lt x0
      have zr0 := blk_lt r0
      have zr1 := blk_lt r1
      have zr2 := blk_lt r2
      go_wp2
      refine bodyPost_ret (v := .tuple #[.agg #[.slice none 0 0, .int .u64 0, .int .i64 0], .int .i64 22]) (by simp [results, Tryd.results13, go_sem, r0, r1, r2]) rfl ⟨⟨none, 0, rfl, .inl rfl⟩, ?_⟩
      exact bl_st (bl_st (bl_st hA (by omega) _) (by omega) _) (by omega) _
  case neg =>
  obtain ⟨k1, k2⟩ : zs.getD s0 0 ≠ 0 ∧ zs.getD goal 0 ≠ 0 := ⟨fun q => hw (.inl q), fun q => hw (.inr q)⟩
  obtain ⟨R, hR⟩ : ∃ R, runA (fun j => zs.getD j 0) (nbS A H zs) (fun i => guessI (cellN A i) (cellN A goal)) zs.length goal budget (zs.length + 1) 0 (startA s0) = R := ⟨_, rfl⟩
  have HSE := Lib.hid (show SeI A H zs s0 goal budget d R 0 (startA s0) from ⟨runI_start hF ⟨(by show s0 < zs.length; omega), k1⟩, hR⟩)
  have HPO := Lib.hid (show ∀ e W, (∃ (E : Int) (M : Nat) (S' : AS), R = (E, M, S') ∧ (E ≠ 0 → e = .returned (.tuple #[.agg #[.slice none 0 0, .int .u64 0, .int .i64 M], .int .i64 E])) ∧
    (E = 0 → ∃ L pa pc, ChainA (gph A H zs) S' s0 goal L ∧ (∀ x ∈ L, x < zs.length) ∧ e = .returned (.tuple #[.agg #[.slice pa L.length pc, .int .u64 (S'.g goal), .int .i64 M], .int .i64 0]) ∧ RowC W pa (L.reverse.map (cellN A)))) → RefQ (seekT A H zs (cellN A s0) (cellN A goal) budget) e W from by
      rintro e W ⟨E, M, S', h1, h2, h3⟩
      have hrun : runT A H zs (cellN A s0) (cellN A goal) budget = (E, M, S') := by
        unfold runT
        rw [hnF, hnT, hR]
        exact h1
      rw [seek_run hE (by unfold wallT; rw [hnF, hnT]; rw [decide_eq_false hw]; decide) hrun]
      by_cases e0 : E = 0
      · rw [if_pos e0]
        obtain ⟨L, pa, pc, c1, c2, c3, c4⟩ := h3 e0
        have hl := nodup_lt_len zs.length L c1.nd c2
        have hp : pathT A zs (cellN A s0) (cellN A goal) S' = L.reverse.map (cellN A) := by unfold pathT; rw [hnF, hnT, ← chain_is c1 hl]
        refine ⟨pa, pc, ?_, ?_⟩
        · show e = .returned (.tuple #[.agg #[.slice pa (pathT A zs (cellN A s0) (cellN A goal) S').length pc, .int .u64 (S'.g (numN A (cellN A goal))), .int .i64 (M : Nat)], .int .i64 0])
          rw [c3, hp, hnT]
          simp
        · show RowC W pa (pathT A zs (cellN A s0) (cellN A goal) S')
          rw [hp]
          exact c4
      · rw [if_neg e0]
        exact ⟨none, 0, h2 e0, .inl rfl⟩)
  have HNX := Lib.hid (fun (n b : Nat) (s : AS) => SeI.next (goal := goal) (budget := budget) (R := R) (n := n) (b := b) (s := s) hm hn hz hF)
  have HSM := Lib.hid (fun (n i : Nat) (s : AS) (h : SeI A H zs s0 goal budget d R n s) (hi : s.st i ≠ 0) => h.small hF hz hi)
  have HCH := Lib.hid (fun (n i : Nat) (s : AS) (h : SeI A H zs s0 goal budget d R n s) (hi : s.st i ≠ 0) => chain_ex (gph_ok hm hn hz) hF h.run.inv (s.g i).toNat i hi (by have := (h.small hF hz hi).1; omega))
  obtain ⟨g1, g2⟩ := num_onS hoF
  rw [hnF] at g2
  have k1b : (zs.getD s0 0 == (0 : Int)) = false := by rw [beq_eq_false_iff_ne]; exact k1
  have k2b : (zs.getD goal 0 == (0 : Int)) = false := by rw [beq_eq_false_iff_ne]; exact k2
  have HM := Lib.hid hm
  have HN := Lib.hid hn
  have HZ := Lib.hid hz
  have HG := Lib.hid (And.intro hs0 hgl)
  have hN6 : zs.length ≤ 1048576 := by have := area_bd hm; omega
  have hs0l : s0 < zs.length := by omega
  have hmk1 := fun w => make_intS zs.length hN6 w
  have hmk2 := fun w => make_u64 zs.length hN6 w
  clear hR hF hw hE hck hnF hnT hoF hoT k1 k2 hb hgl hm hn hz hr hs0
  generalize zs.getD s0 0 = kF at *
  generalize zs.getD goal 0 = kT at *
  go_enter Tryd.func13, Tryd.ntmps13
  go_wp2_with fail
  refine (HC1.out _ (HRH.out _ (by first | exact hA | exact (bl_al hA _) | exact (bl_dr (bl_al hA _)) | exact (bl_al (bl_al hA _) _) | exact (bl_dr (bl_al (bl_al hA _) _)) | exact (bl_al (bl_al (bl_al hA _) _) _) | exact (bl_dr (bl_al (bl_al (bl_al hA _) _) _)) | exact (bl_al (bl_al (bl_al (bl_al hA _) _) _) _) | exact (bl_dr (bl_al (bl_al (bl_al (bl_al hA _) _) _) _)) | exact (bl_al (bl_al (bl_al (bl_al (bl_al hA _) _) _) _) _) | exact (bl_dr (bl_al (bl_al (bl_al (bl_al (bl_al hA _) _) _) _) _)) | exact (bl_al (bl_al (bl_al (bl_al (bl_al (bl_al hA _) _) _) _) _) _) | exact (bl_dr (bl_al (bl_al (bl_al (bl_al (bl_al (bl_al hA _) _) _) _) _) _)) | exact (bl_dr hA)))).mono ?_
  rintro e W1 ⟨rfl, hb⟩
  have hk : Below w.heap.size w W1 := by first | exact hb | exact bl_tr (bl_al (bl0 _) _) hb | exact bl_tr (bl_dr (bl_al (bl0 _) _)) hb | exact bl_tr (bl_al (bl_al (bl0 _) _) _) hb | exact bl_tr (bl_dr (bl_al (bl_al (bl0 _) _) _)) hb | exact bl_tr (bl_al (bl_al (bl_al (bl0 _) _) _) _) hb | exact bl_tr (bl_dr (bl_al (bl_al (bl_al (bl0 _) _) _) _)) hb | exact bl_tr (bl_al (bl_al (bl_al (bl_al (bl0 _) _) _) _) _) hb | exact bl_tr (bl_dr (bl_al (bl_al (bl_al (bl_al (bl0 _) _) _) _) _)) hb | exact bl_tr (bl_al (bl_al (bl_al (bl_al (bl_al (bl0 _) _) _) _) _) _) hb | exact bl_tr (bl_dr (bl_al (bl_al (bl_al (bl_al (bl_al (bl0 _) _) _) _) _) _)) hb | exact bl_tr (bl_al (bl_al (bl_al (bl_al (bl_al (bl_al (bl0 _) _) _) _) _) _) _) hb | exact bl_tr (bl_dr (bl_al (bl_al (bl_al (bl_al (bl_al (bl_al (bl0 _) _) _) _) _) _) _)) hb | exact bl_tr (bl_dr (bl0 _)) hb
  replace hA := bl_tr hA hk
  have x0 := cell_later hb (v := .int .i64 A) (a := ⟨w.heap.size, 0, none⟩) (by simp [go_sem])
  have x1 := cell_later hb (v := .int .i64 H) (a := ⟨w.heap.size, 1, none⟩) (by simp [go_sem])
  have x2 := cell_later hb (v := .slice a zs.length cap) (a := ⟨w.heap.size, 2, none⟩) (by simp [go_sem])
  have y0 := cell_later hb (v := .int .i64 (cellN A s0).1) (a := ⟨w.heap.size + 1, 0, none⟩) (by simp [go_sem])
  have y1 := cell_later hb (v := .int .i64 (cellN A s0).2) (a := ⟨w.heap.size + 1, 1, none⟩) (by simp [go_sem])
  have z0 := cell_later hb (v := .int .i64 (cellN A goal).1) (a := ⟨w.heap.size + 1 + 1, 0, none⟩) (by simp [go_sem])
  have z1 := cell_later hb (v := .int .i64 (cellN A goal).2) (a := ⟨w.heap.size + 1 + 1, 1, none⟩) (by simp [go_sem])
  have r0 := cell_later hb (v := .slice none 0 0) (a := ⟨w.heap.size + 1 + 1 + 1, 0, none⟩) (by simp [go_sem])
  have r1 := cell_later hb (v := .int .u64 0) (a := ⟨w.heap.size + 1 + 1 + 1, 1, none⟩) (by simp [go_sem])
  have r2 := cell_later hb (v := .int .i64 0) (a := ⟨w.heap.size + 1 + 1 + 1, 2, none⟩) (by simp [go_sem])
  have q0 : W1.frozen? ⟨w.heap.size + 1 + 1 + 1, 0, none⟩ = false := (hb.frozen (p := ⟨w.heap.size + 1 + 1 + 1, 0, none⟩) (by simp <;> omega)).trans (by simp [go_sem])
  have q1 : W1.frozen? ⟨w.heap.size + 1 + 1 + 1, 1, none⟩ = false := (hb.frozen (p := ⟨w.heap.size + 1 + 1 + 1, 1, none⟩) (by simp <;> omega)).trans (by simp [go_sem])
  have q2 : W1.frozen? ⟨w.heap.size + 1 + 1 + 1, 2, none⟩ = false := (hb.frozen (p := ⟨w.heap.size + 1 + 1 + 1, 2, none⟩) (by simp <;> omega)).trans (by simp [go_sem])
  clear hb hk
  have zx0 := blk_lt x0
  have zx1 := blk_lt x1
  have zx2 := blk_lt x2
  have zy0 := blk_lt y0
  have zy1 := blk_lt y1
  have zz0 := blk_lt z0
  have zz1 := blk_lt z1
  have zr0 := blk_lt r0
  have zr1 := blk_lt r1
  have zr2 := blk_lt r2
  go_wp2_with fail
  refine (HC2.out _ (HRH.out _ hA)).mono ?_
  rintro e W2 ⟨rfl, hb⟩
  have hk : Below W1.heap.size W1 W2 := by first | exact hb | exact bl_tr (bl_al (bl0 _) _) hb | exact bl_tr (bl_dr (bl_al (bl0 _) _)) hb | exact bl_tr (bl_al (bl_al (bl0 _) _) _) hb | exact bl_tr (bl_dr (bl_al (bl_al (bl0 _) _) _)) hb | exact bl_tr (bl_al (bl_al (bl_al (bl0 _) _) _) _) hb | exact bl_tr (bl_dr (bl_al (bl_al (bl_al (bl0 _) _) _) _)) hb | exact bl_tr (bl_al (bl_al (bl_al (bl_al (bl0 _) _) _) _) _) hb | exact bl_tr (bl_dr (bl_al (bl_al (bl_al (bl_al (bl0 _) _) _) _) _)) hb | exact bl_tr (bl_al (bl_al (bl_al (bl_al (bl_al (bl0 _) _) _) _) _) _) hb | exact bl_tr (bl_dr (bl_al (bl_al (bl_al (bl_al (bl_al (bl0 _) _) _) _) _) _)) hb | exact bl_tr (bl_al (bl_al (bl_al (bl_al (bl_al (bl_al (bl0 _) _) _) _) _) _) _) hb | exact bl_tr (bl_dr (bl_al (bl_al (bl_al (bl_al (bl_al (bl_al (bl0 _) _) _) _) _) _) _)) hb | exact bl_tr (bl_dr (bl0 _)) hb
  replace hA := bl_tr hA hk
  replace q0 := frozen_later hk r0 q0
  replace q1 := frozen_later hk r1 q1
  replace q2 := frozen_later hk r2 q2
  replace x0 := cell_later hk x0
  replace x1 := cell_later hk x1
  replace x2 := cell_later hk x2
  replace y0 := cell_later hk y0
  replace y1 := cell_later hk y1
  replace z0 := cell_later hk z0
  replace z1 := cell_later hk z1
  replace r0 := cell_later hk r0
  replace r1 := cell_later hk r1
  replace r2 := cell_later hk r2
  clear hb hk
  have zx0 := blk_lt x0
  have zx1 := blk_lt x1
  have zx2 := blk_lt x2
  have zy0 := blk_lt y0
  have zy1 := blk_lt y1
  have zz0 := blk_lt z0
  have zz1 := blk_lt z1
  have zr0 := blk_lt r0
  have zr1 := blk_lt r1
  have zr2 := blk_lt r2
  have hlen0 : (0 : Int) ≤ (s0 : Int) := by omega
  have hlen1 : (s0 : Int) < (zs.length : Int) := by omega
  go_upto_region 6 with fail
  obtain ⟨W3, hW3⟩ : ∃ W3, ((W2.alloc (.cells (Array.replicate zs.length (Value.int .i64 0)) 3)).alloc (.cells (Array.replicate zs.length (Value.int .u64 0)) 34)).alloc (.cells (Array.replicate zs.length (Value.int .i64 0)) 3) = W3 := ⟨_, rfl⟩
  have hal : Below W2.heap.size W2 W3 := by rw [← hW3]; exact bl_al (bl_al (bl_al (bl0 _) _) _) _
  have ha0 : W3.heap[W2.heap.size]? = some (.cells (mapN zs.length (fun _ => Value.int .i64 0)).toArray 3 (0, 0)) := by
    rw [← hW3, mapN_const, Below.heap_alloc _ _ _ (by simp; omega), Below.heap_alloc _ _ _ (by simp), heap_alloc_new]
    simp
  have ha1 : W3.heap[W2.heap.size + 1]? = some (.cells (mapN zs.length (fun _ => Value.int .u64 0)).toArray 34 (0, 0)) := by
    rw [← hW3, mapN_const, Below.heap_alloc _ _ _ (by simp)]
    have := heap_alloc_new (W2.alloc (.cells (Array.replicate zs.length (Value.int .i64 0)) 3)) (.cells (Array.replicate zs.length (Value.int .u64 0)) 34)
    rw [World.size_alloc] at this
    rw [this]
    simp
  have ha2 : W3.heap[W2.heap.size + 1 + 1]? = some (.cells (mapN zs.length (fun _ => Value.int .i64 0)).toArray 3 (0, 0)) := by
    rw [← hW3, mapN_const]
    have := heap_alloc_new ((W2.alloc (.cells (Array.replicate zs.length (Value.int .i64 0)) 3)).alloc (.cells (Array.replicate zs.length (Value.int .u64 0)) 34)) (.cells (Array.replicate zs.length (Value.int .i64 0)) 3)
    simp only [World.size_alloc] at this
    rw [this]
    simp
  have hsz3 : W2.heap.size + 1 + 1 + 1 = W3.heap.size := by rw [← hW3]; simp
  rw [hW3]
  clear hW3
  replace hA := bl_tr hA hal
  have hzr := blk_lt r0
  replace q0 := frozen_later hal r0 q0; replace q1 := frozen_later hal r1 q1; replace q2 := frozen_later hal r2 q2
  replace x0 := cell_later hal x0; replace x1 := cell_later hal x1; replace x2 := cell_later hal x2
  replace y0 := cell_later hal y0; replace y1 := cell_later hal y1; replace z0 := cell_later hal z0; replace z1 := cell_later hal z1
  replace r0 := cell_later hal r0; replace r1 := cell_later hal r1; replace r2 := cell_later hal r2
  obtain ⟨t0, t1⟩ := cell_of_heap ha0 (mapN_at _ hs0l)
  obtain ⟨t2, t3⟩ := cell_of_heap ha2 (mapN_at _ hs0l)
  have zx3 := blk_lt x0; have zy3 := blk_lt y0; have zt0 := blk_lt t0; have zt2 := blk_lt t2
  clear hal hmk1 hmk2
  go_upto_region 9 with fail
  obtain ⟨W5, hW5⟩ : ∃ W5, (W3.setCell ⟨W2.heap.size, s0, none⟩ (.int .i64 1)).setCell ⟨W2.heap.size + 1 + 1, s0, none⟩ (.int .i64 (-1)) = W5 := ⟨_, rfl⟩
  rw [hW5]
  have hk5 : KeptS (fun x => x = W2.heap.size ∨ x = W2.heap.size + 1 ∨ x = W2.heap.size + 1 + 1) W3 W5 := by
    rw [← hW5]
    exact (KeptS.of_grown (S := fun x => x = W2.heap.size ∨ x = W2.heap.size + 1 ∨ x = W2.heap.size + 1 + 1) (hgrown_set W3 W2.heap.size s0 (.int .i64 1)) (fun x e _ => by cases e; exact .inl rfl)).trans (KeptS.of_grown (S := fun x => x = W2.heap.size ∨ x = W2.heap.size + 1 ∨ x = W2.heap.size + 1 + 1) (hgrown_set _ (W2.heap.size + 1 + 1) s0 (.int .i64 (-1))) (fun x e _ => by cases e; exact .inr (.inr rfl))) (fun _ _ h => h)
  have HRS := Lib.hid (show RefS W5 zs.length W2.heap.size (W2.heap.size + 1) (W2.heap.size + 1 + 1) s0 (startA s0) from by
    rw [← hW5]
    refine ⟨?_, heap_set_other (heap_set_other ha1 (by omega) _) (by omega) _, ?_⟩
    · rw [heap_set_other (heap_set_list ha0 _) (by omega) _, mapN_set _ _ hs0l]
      exact congrArg (fun l : List Value => some (Obj.cells l.toArray 3 (0, 0))) (congrArg (mapN zs.length) (updF_map (fun n : Nat => Value.int .i64 (n : Int)) (fun _ => 0) s0 1))
    · rw [heap_set_list (heap_set_other ha2 (by omega) _), mapN_set _ _ hs0l]
      refine congrArg (fun l : List Value => some (Obj.cells l.toArray 3 (0, 0))) (congrArg (mapN zs.length) ?_)
      funext i
      unfold cameF
      by_cases e : i = s0
      · rw [if_pos e, e, updF_same]
      · have h0 : (startA s0).st i = 0 := updF_other (fun _ => 0) 1 e
        rw [if_neg e, updF_other _ _ e, if_pos h0])
  replace hA := hA.trans (hk5.to_below (fun k hk e => by omega) hA.size)
  replace q0 := hk5.frozen r0 q0 (by omega); replace q1 := hk5.frozen r1 q1 (by omega); replace q2 := hk5.frozen r2 q2 (by omega)
  replace x0 := hk5.cell x0 (by omega); replace x1 := hk5.cell x1 (by omega); replace x2 := hk5.cell x2 (by omega)
  replace z0 := hk5.cell z0 (by omega); replace z1 := hk5.cell z1 (by omega)
  replace r0 := hk5.cell r0 (by omega); replace r1 := hk5.cell r1 (by omega); replace r2 := hk5.cell r2 (by omega)
  have hzw : w.heap.size + 1 + 1 + 1 < W2.heap.size := hzr
  have HFB := Lib.hid (show ∀ W, KeptS (fun x => x = W2.heap.size ∨ x = W2.heap.size + 1 ∨ x = W2.heap.size + 1 + 1) W5 W → (W.cell? ⟨w.heap.size, 0, none⟩ = some (.int .i64 A) ∧ W.cell? ⟨w.heap.size, 1, none⟩ = some (.int .i64 H) ∧ W.cell? ⟨w.heap.size, 2, none⟩ = some (.slice a zs.length cap)) ∧ (W.cell? ⟨w.heap.size + 1 + 1, 0, none⟩ = some (.int .i64 (cellN A goal).1) ∧ W.cell? ⟨w.heap.size + 1 + 1, 1, none⟩ = some (.int .i64 (cellN A goal).2)) ∧
      (W.cell? ⟨w.heap.size + 1 + 1 + 1, 0, none⟩ = some (.slice none 0 0) ∧ W.cell? ⟨w.heap.size + 1 + 1 + 1, 1, none⟩ = some (.int .u64 0) ∧ W.cell? ⟨w.heap.size + 1 + 1 + 1, 2, none⟩ = some (.int .i64 0)) ∧ (W.frozen? ⟨w.heap.size + 1 + 1 + 1, 0, none⟩ = false ∧ W.frozen? ⟨w.heap.size + 1 + 1 + 1, 1, none⟩ = false ∧ W.frozen? ⟨w.heap.size + 1 + 1 + 1, 2, none⟩ = false) ∧ Below w.heap.size w W from fun W hk =>
    ⟨⟨hk.cell x0 (by omega), hk.cell x1 (by omega), hk.cell x2 (by omega)⟩, ⟨hk.cell z0 (by omega), hk.cell z1 (by omega)⟩, ⟨hk.cell r0 (by omega), hk.cell r1 (by omega), hk.cell r2 (by omega)⟩, ⟨hk.frozen r0 q0 (by omega), hk.frozen r1 q1 (by omega), hk.frozen r2 q2 (by omega)⟩, hA.trans (hk.to_below (fun k hkk e => by omega) hA.size)⟩)
  have HZW := Lib.hid hzw
  clear hk5 hW5 ha0 ha1 ha2 hA q0 q1 q2 x0 x1 x2 y0 y1 z0 z1 r0 r1 r2 t0 t1 t2 t3 zx3 zy3 zt0 zt2 hzr hzw hsz3 g1 g2 k1b k2b HC1 HC2 zx0 zx1 zx2 zy0 zy1 zz0 zz1 zr0 zr1 zr2
  generalize W2.heap.size = gs at *
  go_wp2_with fail
  go_loopw [14, 15, 16, 17, 18, 19, 20, 21, 22, 23] (fun sv _ _ _ _ _ _ _ _ _ wr => ∃ (n : Nat) (s : AS), sv = .int .i64 n ∧ Hid (SeI A H zs s0 goal budget d R n s) ∧ Hid (RefS wr zs.length gs (gs + 1) (gs + 1 + 1) s0 s) ∧ Hid (KeptS (fun x => x = gs ∨ x = gs + 1 ∨ x = gs + 1 + 1) W5 wr)) (fun sv _ _ _ _ _ _ _ _ _ _ => zs.length - (intOf sv).toNat)
  case atStart => exact ⟨0, startA s0, rfl, HSE, HRS, KeptS.refl _ _⟩
  case round =>
    obtain ⟨n, s, rfl, HI, HS, HK⟩ := hrel
    obtain ⟨W6, rfl⟩ : ∃ W6, W6 = wr := ⟨_, rfl⟩
    obtain ⟨⟨f0, f1, f2⟩, ⟨z0, z1⟩, ⟨r0, r1, r2⟩, ⟨q0, q1, q2⟩, hA⟩ := HFB.out _ HK.out
    have zf0 := blk_lt f0; have zz0 := blk_lt z0; have zr0 := blk_lt r0
    go_wp2_with fail
    have hA1 : 1 ≤ A := (mayB_iff.1 HM.out).1
    have ta1 : A ≠ 0 := by omega
    have ta2 : (A == 0) = false := by rw [beq_eq_false_iff_ne]; exact ta1
    have HFI := Lib.hid (show ∀ i b, s.st i ≠ 0 → i < zs.length → s.st b ≠ 0 → b < zs.length → ∀ w, Calls Tryd.prog 26 #[.agg #[.int .i64 (cellN A i).1, .int .i64 (cellN A i).2], .int .u64 (s.g i), .agg #[.int .i64 (cellN A b).1, .int .i64 (cellN A b).2], .int .u64 (s.g b), .agg #[.int .i64 (cellN A goal).1, .int .i64 (cellN A goal).2]] w fun e w' => e = .returned (.bool (lessA s.g (fun i => guessI (cellN A i) (cellN A goal)) i b)) ∧ Below w.heap.size w w' from fun i b h1 h2 h3 h4 w => by
      have hNN := HN.out
      have p1 := on_plB (cellN_on HM.out (show (i : Int) < A * H by omega))
      have p2 := on_plB (cellN_on HM.out (show (b : Int) < A * H by omega))
      have p3 := on_plB (cellN_on HM.out HG.out.2)
      have b1 := HSM.out n i s HI.out h1
      have b2 := HSM.out n b s HI.out h3
      rw [← frB_less (g := s.g) (h := fun i => guessI (cellN A i) (cellN A goal)) hA1]
      exact rfirst_any _ _ _ _ _ w p1 p2 p3 ⟨b1.1, by omega⟩ ⟨b2.1, by omega⟩)
    go_loopw [15, 16] (fun bv iv wx => ∃ i : Nat, i ≤ zs.length ∧ iv = .int .i64 i ∧ bv = .int .i64 (bestI (bestTo s (fun i => guessI (cellN A i) (cellN A goal)) i)) ∧ Below W6.heap.size W6 wx) (fun _ iv _ => zs.length - (intOf iv).toNat)
    case atStart => exact ⟨0, Nat.zero_le _, rfl, rfl, bl0 _⟩
    case round =>
      obtain ⟨i, hi, rfl, rfl, hBi⟩ := hrel
      have hi0 : (0 : Int) ≤ (i : Int) := by omega
      by_cases hlt : i < zs.length
      · have hlt2 : (i : Int) < (zs.length : Int) := by omega
        have hN9 := hN6
        have hwi : IntKind.i64.wrap ((i : Int) + 1) = (i : Int) + 1 := by rw [IntWalk.i64_in _ (by omega)]
        have hRi := HS.out.below hBi
        obtain ⟨t0, _⟩ := hRi.stAt hlt
        obtain ⟨t1, _⟩ := hRi.gAt hlt
        have zt0 := blk_lt t0; have zt1 := blk_lt t1
        have HRi := Lib.hid hRi
        have HBi := Lib.hid hBi
        clear hRi hBi
        by_cases h1 : s.st i = 1
        case neg =>
          have d1 : (((s.st i : Nat) : Int) == 1) = false := by rw [beq_eq_false_iff_ne]; omega
          have HNB := Lib.hid (best_not (h := fun i => guessI (cellN A i) (cellN A goal)) h1)
          clear h1
          go_upto_region 14 with fail
          go_quiet (fail)
          go_wp2_with fail
          go_roundw
          case rel => exact ⟨i + 1, by omega, by go_num, by rw [HNB.out], bl_tr HBi.out (bl_drn _ _)⟩
          case measure => simp [intOf]; omega
        case pos =>
        have d1 : (((s.st i : Nat) : Int) == 1) = true := by rw [beq_iff_eq]; omega
        cases hb : bestTo s (fun i => guessI (cellN A i) (cellN A goal)) i with
        | none =>
          have HNB := Lib.hid (best_one h1 hb)
          have e1 : bestI (none : Option Nat) = -1 := rfl
          rw [e1]
          clear h1 hb e1
          go_upto_region 14 with fail
          go_quiet (fail)
          go_wp2_with fail
          go_roundw
          case rel => exact ⟨i + 1, by omega, by go_num, by rw [HNB.out]; rfl, bl_tr HBi.out (bl_drn _ _)⟩
          case measure => simp [intOf]; omega
        | some b =>
          obtain ⟨b1, b2, _⟩ := bestTo_some hb
          have HNB := Lib.hid (best_two h1 hb)
          have hbl : b < zs.length := by omega
          have HFC := Lib.hid (HFI.out i b (by omega) hlt (by omega) hbl)
          obtain ⟨t2, _⟩ := HRi.out.gAt hbl
          have zt2 := blk_lt t2
          have e1 : bestI (some b) = (b : Int) := rfl
          rw [e1]
          have hb0 : (0 : Int) ≤ (b : Int) := by omega
          have hb1 : (b : Int) < (zs.length : Int) := by omega
          have d2 : decide ((b : Int) < 0) = false := decide_eq_false (by omega)
          have m1 := tm_cell (A := A) (i := i)
          have m2 := tm_cell (A := A) (i := b)
          obtain ⟨m3, m4⟩ := td_cell (A := A) (i := i) hA1
          obtain ⟨m5, m6⟩ := td_cell (A := A) (i := b) hA1
          have m7 := m4 (by omega) (by omega)
          have m8 := m6 (by omega) (by omega)
          obtain ⟨lb, hlb⟩ : ∃ lb, lessA s.g (fun i => guessI (cellN A i) (cellN A goal)) i b = lb := ⟨_, rfl⟩
          rw [hlb] at HNB HFC
          replace f0 := cell_later HBi.out f0; replace z0 := cell_later HBi.out z0; replace z1 := cell_later HBi.out z1
          clear h1 hb b1 b2 e1 m4 m6 hlb f1 f2 r0 r1 r2 q0 q1 q2
          generalize cellN A i = ci at *
          generalize cellN A b = cb at *
          generalize cellN A goal = ct at *
          go_upto_region 14 with fail
          have hB := bl_dr (bl0 wr)
          go_cut [108] from 74 to 107 (fun sv wx => sv = .bool lb ∧ Below wr.heap.size wr wx)
          case first =>
            go_region_held3 (fun W => W.cell? ⟨gs, i, none⟩ = some (.int .i64 (s.st i : Nat)) ∧ W.cell? ⟨gs + 1, i, none⟩ = some (.int .u64 (s.g i)) ∧ W.cell? ⟨gs + 1, b, none⟩ = some (.int .u64 (s.g b)) ∧ W.cell? ⟨w.heap.size + 1 + 1, 0, none⟩ = some (.int .i64 ct.1) ∧ W.cell? ⟨w.heap.size + 1 + 1, 1, none⟩ = some (.int .i64 ct.2))
              (exact ⟨cell_later hB t0, cell_later hB t1, cell_later hB t2, cell_later hB z0, cell_later hB z1⟩)
              ((go_at_call 26; (with_reducible refine (HFC.out _).mono ?_); rintro e w8 ⟨rfl, hb8⟩; replace hB := bl_tr hB hb8; clear hb8))
            all_goals
              go_wp2_with fail
              go_meet
              exact ⟨rfl, hB⟩
          case rest =>
          obtain ⟨rfl, hbw⟩ := hcut
          cases lb
          · go_wp2_with fail
            go_roundw
            case rel => exact ⟨i + 1, by omega, by go_num, by rw [HNB.out]; rfl, bl_tr HBi.out hbw⟩
            case measure => simp [intOf]; omega
          · go_wp2_with fail
            go_roundw
            case rel => exact ⟨i + 1, by omega, by go_num, by rw [HNB.out]; rfl, bl_tr HBi.out hbw⟩
            case measure => simp [intOf]; omega
      · obtain rfl : i = zs.length := by omega
        have hge : ¬ (zs.length : Int) < (zs.length : Int) := by omega
        have hsi : n ≤ zs.length := HI.out.le
        have hwn : IntKind.i64.wrap ((n : Int) + 1) = (n : Int) + 1 := by rw [IntWalk.i64_in _ (by have := hN6; omega)]
        have hk1 := HK.out.below hBi
        have HS1 := Lib.hid (HS.out.below hBi)
        have HK1 := Lib.hid hk1
        obtain ⟨⟨f0, f1, f2⟩, ⟨z0, z1⟩, ⟨r0, r1, r2⟩, ⟨q0, q1, q2⟩, hA⟩ := HFB.out _ hk1
        have zf1 := blk_lt f0; have zz1 := blk_lt z0; have zr1 := blk_lt r0
        have HA1' := Lib.hid hA
        clear hk1 hBi hlt hi hA
        cases hb : bestTo s (fun i => guessI (cellN A i) (cellN A goal)) zs.length with
        | none =>
          have HRN := Lib.hid (HI.out.none hb)
          have e1 : bestI (none : Option Nat) = -1 := rfl
          rw [e1]
          clear hb e1
          go_wp2
          refine bodyPost_ret (v := .tuple #[.agg #[.slice none 0 0, .int .u64 0, .int .i64 n], .int .i64 22]) (by simp [results, Tryd.results13, go_sem, r0, r1, r2]) rfl ⟨HPO.out _ _ ⟨22, n, s, HRN.out, fun _ => rfl, fun h => absurd h (by decide)⟩, ?_⟩
          exact bl_st (bl_st (bl_st HA1'.out (by omega) _) (by omega) _) (by omega) _
        | some b =>
          obtain ⟨b1, b2, _⟩ := bestTo_some hb
          have e1 : bestI (some b) = (b : Int) := rfl
          rw [e1]
          have hb0 : (0 : Int) ≤ (b : Int) := by omega
          have hb1 : (b : Int) < (zs.length : Int) := by omega
          have d2 : decide ((b : Int) < 0) = false := decide_eq_false (by omega)
          have HBS := Lib.hid hb
          have HB1 := Lib.hid b1
          have HB2 := Lib.hid b2
          clear hb b1 b2 e1
          by_cases hbu : (n : Int) = budget
          · have HRN := Lib.hid (HI.out.spent HBS.out hbu)
            have hbq : ((n : Int) == budget) = true := by rw [beq_iff_eq]; exact hbu
            clear hbu
            go_wp2
            refine bodyPost_ret (v := .tuple #[.agg #[.slice none 0 0, .int .u64 0, .int .i64 n], .int .i64 23]) (by simp [results, Tryd.results13, go_sem, r0, r1, r2]) rfl ⟨HPO.out _ _ ⟨23, n, s, HRN.out, fun _ => rfl, fun h => absurd h (by decide)⟩, ?_⟩
            exact bl_st (bl_st (bl_st HA1'.out (by omega) _) (by omega) _) (by omega) _
          · have hbq : ((n : Int) == budget) = false := by rw [beq_eq_false_iff_ne]; exact hbu
            have HBU := Lib.hid hbu
            clear hbu
            have hmA : (b : Int) < A * H := by have := HN.out; omega
            have m1 := tm_cell (A := A) (i := b)
            obtain ⟨m3, m4⟩ := td_cell (A := A) (i := b) hA1
            have m7 := m4 (by omega) (by omega)
            obtain ⟨t0, t1⟩ := HS1.out.stAt HB1.out
            have zt0 := blk_lt t0
            have HS2 := Lib.hid (HS1.out.settle HB1.out (.inr (by have := HB2.out; omega)) (show gs ≠ gs + 1 by omega) (show gs ≠ gs + 1 + 1 by omega))
            have hk2 := HK1.out.trans (KeptS.of_grown (S := fun x => x = gs ∨ x = gs + 1 ∨ x = gs + 1 + 1) (hgrown_set wr gs b (.int .i64 2)) (fun x e _ => by cases e; exact .inl rfl)) (fun _ _ h => h)
            have HK2 := Lib.hid hk2
            have HMA := Lib.hid hmA
            clear m4 hk2 hmA
            go_upto_region 22 with fail
            obtain ⟨W7, hW7⟩ : ∃ W7, wr.setCell ⟨gs, b, none⟩ (.int .i64 2) = W7 := ⟨_, rfl⟩
            rw [hW7] at HS2 HK2 ⊢
            clear hW7 t0 t1 zt0 f0 f1 f2 z0 z1 r0 r1 r2 q0 q1 q2 zf1 zz1 zr1 HS1 HK1 HA1' hbq
            obtain ⟨⟨f0, f1, f2⟩, ⟨z0, z1⟩, ⟨r0, r1, r2⟩, ⟨q0, q1, q2⟩, hA⟩ := HFB.out _ HK2.out
            have zf1 := blk_lt f0; have zz1 := blk_lt z0; have zr1 := blk_lt r0
            obtain ⟨cb, hcb⟩ : ∃ cb, cellN A b = cb := ⟨_, rfl⟩
            rw [hcb] at m1 m3 m7
            have HCB := Lib.hid hcb
            clear hcb
            go_region
            go_upto_region 23 with fail
            obtain ⟨W8, hW8⟩ : ∃ W8, (W7.alloc (.cells #[.int .i64 cb.1, .int .i64 cb.2] 28)).drew = W8 := ⟨_, rfl⟩
            have hb8 : Below W7.heap.size W7 W8 := by rw [← hW8]; exact bl_dr (bl_al (bl0 _) _)
            have c0 : W8.cell? ⟨W7.heap.size, 0, none⟩ = some (.int .i64 cb.1) := by rw [← hW8]; simp [go_sem]
            have c1 : W8.cell? ⟨W7.heap.size, 1, none⟩ = some (.int .i64 cb.2) := by rw [← hW8]; simp [go_sem]
            rw [hW8]
            have HS8 := Lib.hid (HS2.out.below hb8)
            have HG7 := Lib.hid (show gs + 1 + 1 < W7.heap.size from (Array.getElem?_eq_some_iff.1 HS2.out.par).1)
            have HK8 := Lib.hid (HK2.out.below hb8)
            clear hW8 f0 f1 f2 z0 z1 r0 r1 r2 q0 q1 q2 zf1 zz1 zr1 hA HS2 HK2
            obtain ⟨⟨f0, f1, f2⟩, ⟨z0, z1⟩, ⟨r0, r1, r2⟩, ⟨q0, q1, q2⟩, hA⟩ := HFB.out _ HK8.out
            have zf1 := blk_lt f0; have zz1 := blk_lt z0; have zr1 := blk_lt r0; have zc1 := blk_lt c0
            have hcmp := fun w => eql_cell cb (cellN A goal) w
            by_cases hg : b = goal
            · subst hg
              rw [decide_eq_true (HCB.out.symm)] at hcmp
              obtain ⟨L, hL⟩ := HCH.out n b s HI.out (by have := HB2.out; omega)
              have HRN := Lib.hid (HI.out.goal HBS.out HBU.out)
              have HCL := Lib.hid hL
              have hLl : ∀ x ∈ L, x < zs.length := fun x hx => by
                obtain ⟨k, hk⟩ := List.getElem?_of_mem hx
                exact HI.out.run.lt x (hL.stp k x hk).1
              have hlen := nodup_lt_len zs.length L hL.nd hLl
              have HLL := Lib.hid hLl
              have HA8 := Lib.hid hA
              clear hL hLl hA
              go_upto_region 25 with fail
              have hown0 := own_emptyS (w := W8) (B := W8.heap.size) 28 (Nat.le_refl _)
              obtain ⟨W9, hW9⟩ : ∃ W9, W8.alloc (.cells #[] 28) = W9 := ⟨_, rfl⟩
              have hb9 : Below W8.heap.size W8 W9 := by rw [← hW9]; exact bl_al (bl0 _) _
              rw [hW9] at hown0 ⊢
              have hrc9 : RowC W9 (some ⟨W8.heap.size, 0, none⟩) [] := .inl rfl
              have HS9 := Lib.hid (HS8.out.below hb9)
              have HK9 := Lib.hid (HK8.out.below hb9)
              have hl0 : L[0]? = some b := by obtain ⟨l, hl⟩ := HCL.out.head; rw [hl]; rfl
              have hi0 : ixL L 0 = (b : Int) := by unfold ixL; rw [hl0]
              have HI0 := Lib.hid hi0
              have HGS8 := Lib.hid (show gs ≤ W8.heap.size from by have := (Array.getElem?_eq_some_iff.1 HS8.out.st).1; omega)
              have HGS9 := Lib.hid (show gs ≤ W9.heap.size from by have := HGS8.out; have := hb9.size; omega)
              clear hW9 hown0 hl0 hi0 f0 f1 f2 z0 z1 r0 r1 r2 q0 q1 q2 zf1 zz1 zr1 zc1 c0 c1 hcmp hb8 HK8 HS8
              go_wp2_with fail
              go_loopw [18, 19] (fun pv iv wx => ∃ (k : Nat) (pa : Option Addr) (pc : Nat), k ≤ L.length ∧ iv = .int .i64 (ixL L k) ∧ pv = .slice pa k pc ∧ RowC wx pa ((L.take k).reverse.map (cellN A)) ∧ (∀ b i, pa = some ⟨b, i, none⟩ → gs ≤ b) ∧ Below W9.heap.size W9 wx) (fun pv _ _ => L.length - lenOf pv)
              case atStart => exact ⟨0, _, 0, Nat.zero_le _, by rw [HI0.out], rfl, hrc9, (fun b i e => by cases e; exact HGS8.out), bl0 _⟩
              case round =>
                obtain ⟨k, pa, pc, hk, rfl, rfl, hrc, hpa, hBk⟩ := hrel
                obtain ⟨W10, rfl⟩ : ∃ W10, W10 = wr := ⟨_, rfl⟩
                have HS10 := Lib.hid (HS9.out.below hBk)
                have hk10 := HK9.out.below hBk
                by_cases hlt : k < L.length
                · obtain ⟨x, hx⟩ : ∃ x, L[k]? = some x := ⟨_, List.getElem?_eq_getElem hlt⟩
                  have hxl := HLL.out x (List.mem_of_getElem? hx)
                  obtain ⟨st1, st2, st3⟩ := HCL.out.stp k x hx
                  have hix : ixL L k = (x : Int) := by unfold ixL; rw [hx]
                  have HNXT := Lib.hid (show cameF s0 (settleB s b) x = ixL L (k + 1) from by
                    unfold cameF ixL
                    by_cases e : x = s0
                    · rw [if_pos e]
                      have := st2.1 e
                      rw [List.getElem?_eq_none (by omega)]
                    · rw [if_neg e]
                      have hk1 : k + 1 < L.length := by
                        apply Classical.byContradiction
                        intro q
                        exact e (st2.2 (by omega))
                      have hst : (settleB s b).st x ≠ 0 := by
                        show updF s.st b 2 x ≠ 0
                        by_cases e2 : x = b
                        · rw [e2, updF_same]; decide
                        · rw [updF_other _ _ e2]; exact st1
                      rw [if_neg hst, List.getElem?_eq_getElem hk1, (st3 _ (List.getElem?_eq_getElem hk1)).1]
                      rfl)
                  have hx0 : (0 : Int) ≤ (x : Int) := by omega
                  have hx1 : (x : Int) < (zs.length : Int) := by omega
                  have dx := decide_eq_true hx0
                  have m11 := tm_cell (A := A) (i := x)
                  obtain ⟨m13, m14⟩ := td_cell (A := A) (i := x) hA1
                  have m17 := m14 (by omega) (by omega)
                  obtain ⟨cx, hcx⟩ : ∃ cx, cellN A x = cx := ⟨_, rfl⟩
                  rw [hcx] at m11 m13 m17
                  have hrow : (L.take (k + 1)).reverse.map (cellN A) = cx :: (L.take k).reverse.map (cellN A) := by
                    rw [List.take_add_one, hx]
                    simp [hcx]
                  have hbl : ((L.take k).reverse.map (cellN A)).length = k := by simp; omega
                  obtain ⟨BL, hBL⟩ : ∃ BL, (L.take k).reverse.map (cellN A) = BL := ⟨_, rfl⟩
                  rw [hBL] at hrow hbl hrc
                  have HROW := Lib.hid hrow
                  have HBL := Lib.hid hbl
                  have HK10 := Lib.hid hBk
                  have HHX := Lib.hid hlen
                  rw [hix]
                  clear hx st1 st2 st3 hix hcx hrow hBL hbl hk10 hBk m14
                  go_upto_region 28 with fail
                  have hown0 := own_later (own_litC (w := W10) (B := W10.heap.size) (c := cx) (t := 28) (Nat.le_refl _)) (bl_dr (bl0 _))
                  have hb11 : Below W10.heap.size W10 (W10.alloc (.cells #[.int .i64 cx.1, .int .i64 cx.2] 28)).drew := bl_dr (bl_al (bl0 _) _)
                  have hrc11 := hrc.below hb11
                  refine (wpIn_wide (n := 11)).1 ?_
                  refine ordS_begin (S := (fun _ : World => True)) (by kernel_rfl) trivial (fun hH => ?_)
                  refine' ordS_take (i := 0) (oi := { dst := some 142, op := Op.move (Operand.tmp 19), type := 3, pos := _, after := #[], guard := none }) (v := _) rfl (by kernel_rfl) (by kernel_rfl) (by kernel_rfl) (by kernel_rfl) (fun _ _ _ h => h) (by assumption) (Or.inl ⟨by rfl, ?hy137⟩) (fun _ => rfl) ?rest137
                  case hy137 => (intro w hSw; (try dsimp only at hSw); go_simp; try with_reducible rfl)
                  try simp only [Act.put, List.setIfInBounds_toArray, List.set_cons_zero, List.set_cons_succ]
                  refine' ordS_take (i := 1) (oi := { dst := some 143, op := Op.move (Operand.tmp 13), type := 3, pos := _, after := #[], guard := none }) (v := _) rfl (by kernel_rfl) (by kernel_rfl) (by kernel_rfl) (by kernel_rfl) (fun _ _ _ h => h) (by assumption) (Or.inl ⟨by rfl, ?hy138⟩) (fun _ => rfl) ?rest138
                  case hy138 => (intro w hSw; (try dsimp only at hSw); go_simp; try with_reducible rfl)
                  try simp only [Act.put, List.setIfInBounds_toArray, List.set_cons_zero, List.set_cons_succ]
                  refine' ordS_take (i := 2) (oi := { dst := some 144, op := Op.binOp BinOp.rem 3 (Operand.tmp 142) (Operand.tmp 143) 3, type := 3, pos := _, after := #[{ on := 0, ground := Ground.data }, { on := 1, ground := Ground.data }], guard := none }) (v := _) rfl (by kernel_rfl) (by kernel_rfl) (by kernel_rfl) (by kernel_rfl) (fun _ _ _ h => h) (by assumption) (Or.inl ⟨by rfl, ?hy139⟩) (fun _ => rfl) ?rest139
                  case hy139 => (intro w hSw; (try dsimp only at hSw); go_simp; try with_reducible rfl)
                  try simp only [Act.put, List.setIfInBounds_toArray, List.set_cons_zero, List.set_cons_succ]
                  refine' ordS_take (i := 3) (oi := { dst := some 145, op := Op.move (Operand.tmp 19), type := 3, pos := _, after := #[], guard := none }) (v := _) rfl (by kernel_rfl) (by kernel_rfl) (by kernel_rfl) (by kernel_rfl) (fun _ _ _ h => h) (by assumption) (Or.inl ⟨by rfl, ?hy140⟩) (fun _ => rfl) ?rest140
                  case hy140 => (intro w hSw; (try dsimp only at hSw); go_simp; try with_reducible rfl)
                  try simp only [Act.put, List.setIfInBounds_toArray, List.set_cons_zero, List.set_cons_succ]
                  refine' ordS_take (i := 4) (oi := { dst := some 146, op := Op.move (Operand.tmp 13), type := 3, pos := _, after := #[], guard := none }) (v := _) rfl (by kernel_rfl) (by kernel_rfl) (by kernel_rfl) (by kernel_rfl) (fun _ _ _ h => h) (by assumption) (Or.inl ⟨by rfl, ?hy141⟩) (fun _ => rfl) ?rest141
                  case hy141 => (intro w hSw; (try dsimp only at hSw); go_simp; try with_reducible rfl)
                  try simp only [Act.put, List.setIfInBounds_toArray, List.set_cons_zero, List.set_cons_succ]
                  refine' ordS_take (i := 5) (oi := { dst := some 147, op := Op.binOp BinOp.quo 3 (Operand.tmp 145) (Operand.tmp 146) 3, type := 3, pos := _, after := #[{ on := 3, ground := Ground.data }, { on := 4, ground := Ground.data }], guard := none }) (v := _) rfl (by kernel_rfl) (by kernel_rfl) (by kernel_rfl) (by kernel_rfl) (fun _ _ _ h => h) (by assumption) (Or.inl ⟨by rfl, ?hy142⟩) (fun _ => rfl) ?rest142
                  case hy142 => (intro w hSw; (try dsimp only at hSw); go_simp; try with_reducible rfl)
                  try simp only [Act.put, List.setIfInBounds_toArray, List.set_cons_zero, List.set_cons_succ]
                  refine' ordS_take (i := 6) (oi := { dst := some 148, op := Op.build 28 #[(0, Operand.tmp 144), (1, Operand.tmp 147)], type := 28, pos := _, after := #[{ on := 2, ground := Ground.data }, { on := 5, ground := Ground.data }], guard := none }) (v := _) rfl (by kernel_rfl) (by kernel_rfl) (by kernel_rfl) (by kernel_rfl) (fun _ _ _ h => h) (by assumption) (Or.inl ⟨by rfl, ?hy143⟩) (fun _ => rfl) ?rest143
                  case hy143 => (intro w hSw; (try dsimp only at hSw); go_simp; try with_reducible rfl)
                  try simp only [Act.put, List.setIfInBounds_toArray, List.set_cons_zero, List.set_cons_succ]
                  refine' ordS_take (i := 8) (oi := { dst := some 150, op := Op.move (Operand.tmp 18), type := 33, pos := _, after := #[], guard := none }) (v := _) rfl (by kernel_rfl) (by kernel_rfl) (by kernel_rfl) (by kernel_rfl) (fun _ _ _ h => h) (by assumption) (Or.inl ⟨by rfl, ?hy144⟩) (fun _ => rfl) ?rest144
                  case hy144 => (intro w hSw; (try dsimp only at hSw); go_simp; try with_reducible rfl)
                  try simp only [Act.put, List.setIfInBounds_toArray, List.set_cons_zero, List.set_cons_succ]
                  refine ordS_one (i := 7) (o := { dst := some 149, op := Op.buildSlice 33 1 #[(0, Operand.tmp 148)], type := 33, pos := _, after := #[{ on := 6, ground := Ground.data }], guard := none }) (by kernel_rfl) rfl (by rfl) (fun K hK => ?_)
                  go_simp
                  refine hK _ _ trivial ?_
                  try simp only [Act.put, List.setIfInBounds_toArray, List.set_cons_zero, List.set_cons_succ]
                  clear hK K
                  refine ordS_one (i := 9) (o := { dst := some 151, op := Op.call { callee := Callee.builtin Builtin.append, args := #[Operand.tmp 149, Operand.tmp 150], argTypes := #[33, 33] }, type := 33, pos := _, after := #[{ on := 7, ground := Ground.data }, { on := 8, ground := Ground.data }], guard := none }) (by kernel_rfl) rfl (by rfl) (fun K hK => ?_)
                  refine wpIn_append_cm _ _ rfl W10.heap.size _ 1 _ rfl hown0 pa k pc BL HBL.out rfl hrc11 (by omega) hb11.size (fun v' w' hown hgr => ?_)
                  have hb12 := hb11.grown hgr hb11.size (fun j hj => by cases hj; exact Nat.le_refl _)
                  refine hK _ _ trivial ?_
                  try simp only [Act.put, List.setIfInBounds_toArray, List.set_cons_zero, List.set_cons_succ]
                  clear hK K
                  refine' ordS_take (i := 10) (oi := { dst := some 18, op := Op.assign (Operand.tmp 151), type := 33, pos := _, after := #[{ on := 9, ground := Ground.data }, { on := 9, ground := Ground.chain }, { on := 0, ground := Ground.phase }, { on := 1, ground := Ground.phase }, { on := 2, ground := Ground.phase }, { on := 3, ground := Ground.phase }, { on := 4, ground := Ground.phase }, { on := 5, ground := Ground.phase }, { on := 6, ground := Ground.phase }, { on := 7, ground := Ground.phase }, { on := 8, ground := Ground.phase }, { on := 9, ground := Ground.phase }], guard := none }) (v := _) rfl (by kernel_rfl) (by kernel_rfl) (by kernel_rfl) (by kernel_rfl) (fun _ _ _ h => h) (by assumption) (Or.inl ⟨by rfl, ?hy145⟩) (fun _ => rfl) ?rest145
                  case hy145 => (intro w hSw; (try dsimp only at hSw); go_simp; try with_reducible rfl)
                  try simp only [Act.put, List.setIfInBounds_toArray, List.set_cons_zero, List.set_cons_succ]
                  refine ordS_done (by kernel_rfl) ?_
                  rw [flatC_appQ, List.singleton_append, ← HROW.out, show 1 + k = k + 1 by omega] at hown
                  obtain ⟨na, nc, rfl⟩ : ∃ na nc, v' = .slice na (k + 1) nc := by
                    rcases hown.2 with ⟨_, h⟩ | ⟨g, cap, cur, h, _⟩
                    · omega
                    · exact ⟨_, _, h⟩
                  have HRN2 := Lib.hid (own_rowS hown)
                  have HPA2 := Lib.hid (show ∀ b i, na = some ⟨b, i, none⟩ → gs ≤ b from fun b i e => by
                    have h1 := (hown.lt b (by rw [e]; rfl)).1
                    have h2 := HK10.out.size
                    have h3 := HGS9.out
                    omega)
                  obtain ⟨p0, _⟩ := (HS10.out.below hb12).parAt hxl
                  rw [HNXT.out] at p0
                  have zp0 := blk_lt p0
                  have HB12 := Lib.hid (bl_tr HK10.out hb12)
                  clear hown hgr hown0 hb11 hrc11 hrc hb12 hH dx m11 m13 m17
                  go_wp2_with fail
                  go_roundw
                  case rel => exact ⟨k + 1, na, nc, by omega, rfl, rfl, HRN2.out, HPA2.out, HB12.out⟩
                  case measure => simp [lenOf]; omega
                · obtain rfl : k = L.length := by omega
                  have hix : ixL L L.length = -1 := by unfold ixL; rw [List.getElem?_eq_none (Nat.le_refl _)]
                  rw [hix]
                  rw [List.take_length] at hrc
                  obtain ⟨⟨f0, f1, f2⟩, ⟨z0, z1⟩, ⟨r0, r1, r2⟩, ⟨q0, q1, q2⟩, hA⟩ := HFB.out _ hk10
                  have zr1 := blk_lt r0
                  obtain ⟨t0, _⟩ := HS10.out.gAt HB1.out
                  have e2 : (settleB s b).g b = s.g b := rfl
                  rw [e2] at t0
                  have zt0 := blk_lt t0
                  have HRC := Lib.hid (show RowC (((W10.setCell ⟨w.heap.size + 1 + 1 + 1, 0, none⟩ (.slice pa L.length pc)).setCell ⟨w.heap.size + 1 + 1 + 1, 1, none⟩ (.int .u64 (s.g b))).setCell ⟨w.heap.size + 1 + 1 + 1, 2, none⟩ (.int .i64 (n + 1 : Nat))) pa (L.reverse.map (cellN A)) from by
                    have hp : ∀ b i, pa = some ⟨b, i, none⟩ → b ≠ w.heap.size + 1 + 1 + 1 := fun b i e => by have h1 := hpa b i e; have h2 := HZW.out; omega
                    exact rowC_other (rowC_other (rowC_other hrc hp) hp) hp)
                  have HA10 := Lib.hid hA
                  clear hix e2 hrc hA hlt hk
                  go_wp2
                  refine bodyPost_ret (v := .tuple #[.agg #[.slice pa L.length pc, .int .u64 (s.g b), .int .i64 (n + 1 : Nat)], .int .i64 0]) (by simp [results, Tryd.results13, go_sem, r0, r1, r2]) rfl ⟨HPO.out _ _ ⟨0, n + 1, settleB s b, HRN.out, fun h => absurd rfl h, fun _ => ⟨L, pa, pc, HCL.out.settle, HLL.out, rfl, HRC.out⟩⟩, ?_⟩
                  exact bl_st (bl_st (bl_st HA10.out (by omega) _) (by omega) _) (by omega) _
            · have hne : ¬ cb = cellN A goal := fun q => hg (by rw [← numN_cell HM.out HMA.out, HCB.out, q, numN_cell HM.out HG.out.2])
              rw [decide_eq_false hne] at hcmp
              have HGL := Lib.hid hg
              have hSrc : Src s0 (settleB s b) := Src.settle ⟨HI.out.run.inv.src.1, HI.out.run.inv.src.2⟩
              have HSRC := Lib.hid hSrc
              have HMA1 := Lib.hid (show onB A H cb = true from by rw [← HCB.out]; exact cellN_on HM.out HMA.out)
              have hgb := HSM.out n b s HI.out (by have := HB2.out; omega)
              have HGB := Lib.hid hgb
              have CB0 := Lib.hid c0
              have CB1 := Lib.hid c1
              clear hne hg hSrc hgb hA hb8 m1 m3 m7
              go_wp2_with fail
              clear c0 c1 zc1 hcmp f0 f1 f2 z0 z1 r0 r1 r2 q0 q1 q2 zf1 zz1 zr1
              go_loopw [20, 21, 22, 23] (fun dv _ _ _ wx => ∃ (k : Nat) (t : AS), k ≤ 4 ∧ dv = .int .i64 k ∧ Hid (t = (nbP A H cb.1 cb.2 k).foldl (tellC A zs b (s.g b)) (settleB s b)) ∧ Hid (Src s0 t ∧ t.st b = 2 ∧ t.g b = s.g b) ∧ Hid (RefS wx zs.length gs (gs + 1) (gs + 1 + 1) s0 t) ∧ Hid (KeptS (fun x => x = gs ∨ x = gs + 1 ∨ x = gs + 1 + 1) W8 wx)) (fun dv _ _ _ _ => 4 - (intOf dv).toNat)
              case atStart => exact ⟨0, settleB s b, by omega, rfl, rfl, ⟨HSRC.out, updF_same _ _ _, rfl⟩, HS8, KeptS.refl _ _⟩
              case round =>
                obtain ⟨k, t, hk, rfl, HT, HSt, HRt, HKt⟩ := hrel
                obtain ⟨W10, rfl⟩ : ∃ W10, W10 = wr := ⟨_, rfl⟩
                have hk10 := HK8.out.trans HKt.out (fun _ _ h => h)
                obtain ⟨⟨f0, f1, f2⟩, ⟨z0, z1⟩, ⟨r0, r1, r2⟩, ⟨q0, q1, q2⟩, hA⟩ := HFB.out _ hk10
                have hg7 := HG7.out
                have c0 := HKt.out.cell CB0.out (by omega)
                have c1 := HKt.out.cell CB1.out (by omega)
                have zf1 := blk_lt f0; have zc1 := blk_lt c0
                have HK10 := Lib.hid hk10
                have HA10 := Lib.hid hA
                have hk0 : (0 : Int) ≤ (k : Int) := by omega
                clear hk10 r0 r1 r2 q0 q1 q2 z0 z1 hA hg7
                by_cases hlt : k < 4
                · have hlt2 : (k : Int) < 4 := by omega
                  have hwk : IntKind.i64.wrap ((k : Int) + 1) = (k : Int) + 1 := by rw [IntWalk.i64_in _ (by omega)]
                  have dk : decide ((k : Int) < 4) = true := decide_eq_true hlt2
                  have hpl := on_plB HMA1.out
                  have HST8 := Lib.hid (fun w => rstepS_any cb.1 cb.2 k w hpl hk0 hlt2)
                  have HM1 := Lib.hid (show (stepI (cb.1, cb.2) (k : Int)).1 = cb.1 + dxI k ∧ (stepI (cb.1, cb.2) (k : Int)).2 = cb.2 + dyI k from ⟨rfl, rfl⟩)
                  obtain ⟨M, hM⟩ : ∃ M, stepI (cb.1, cb.2) (k : Int) = M := ⟨_, rfl⟩
                  rw [hM] at HST8 HM1
                  have HIN := Lib.hid (fun w => rin10_any A H M w)
                  rw [inK10_on HM.out] at HIN
                  clear hpl hM
                  go_wp2_with fail
                  refine (HST8.out _).mono ?_
                  rintro e W11 ⟨rfl, hb11⟩
                  replace f0 := cell_later hb11 f0; replace f1 := cell_later hb11 f1; replace f2 := cell_later hb11 f2
                  replace c0 := cell_later hb11 c0; replace c1 := cell_later hb11 c1
                  have zf2 := blk_lt f0; have zc2 := blk_lt c0
                  have HB11 := Lib.hid hb11
                  clear hb11
                  go_upto_region 34 with fail
                  have hal := bl_al (bl0 W11) (.cells #[.int .i64 M.1, .int .i64 M.2] 28)
                  obtain ⟨W12, hW12⟩ : ∃ W12, W11.alloc (.cells #[.int .i64 M.1, .int .i64 M.2] 28) = W12 := ⟨_, rfl⟩
                  have e0 : W12.cell? ⟨W11.heap.size, 0, none⟩ = some (.int .i64 M.1) := by rw [← hW12]; simp [go_sem]
                  have e1 : W12.cell? ⟨W11.heap.size, 1, none⟩ = some (.int .i64 M.2) := by rw [← hW12]; simp [go_sem]
                  rw [hW12] at hal ⊢
                  clear hW12
                  replace f0 := cell_later hal f0; replace f1 := cell_later hal f1; replace f2 := cell_later hal f2
                  have zf3 := blk_lt f0; have ze3 := blk_lt e0
                  have HB12 := Lib.hid (bl_tr HB11.out hal)
                  clear hal c0 c1 zc2 zc1
                  by_cases hon : onB A H M = true
                  case neg =>
                    rw [Bool.eq_false_iff.2 hon] at HIN
                    have HNB := Lib.hid (show nbP A H cb.1 cb.2 (k + 1) = nbP A H cb.1 cb.2 k from nbP_out (fun q => hon (by
                      show inB A H M.1 M.2 = true
                      rw [HM1.out.1, HM1.out.2]; exact q)))
                    clear hon
                    go_wp2_with fail
                    refine (HIN.out _).mono ?_
                    rintro e W13 ⟨rfl, hb13⟩
                    have HB13 := Lib.hid (bl_tr HB12.out hb13)
                    clear hb13
                    go_wp2_with fail
                    go_roundw
                    case rel => exact ⟨k + 1, t, by omega, by go_num, by rw [HNB.out]; exact HT.out, HSt, HRt.out.below HB13.out, HKt.out.below HB13.out⟩
                    case measure => simp [intOf]; omega
                  case pos =>
                  rw [hon] at HIN
                  have HNB := Lib.hid (show nbP A H cb.1 cb.2 (k + 1) = nbP A H cb.1 cb.2 k ++ [(M.1, M.2)] from nbP_in HM1.out.1.symm HM1.out.2.symm hon)
                  have HCM := Lib.hid (fun W h => HCO.out W M hon h)
                  have hjn := numN_int hon
                  obtain ⟨g1, g2⟩ := num_onS hon
                  obtain ⟨j, hj⟩ : ∃ j, numN A M = j := ⟨_, rfl⟩
                  rw [hj] at HCM hjn g2
                  have hkk := getD_in HZ.out j
                  obtain ⟨K, hK⟩ : ∃ K, zs.getD j 0 = K := ⟨_, rfl⟩
                  rw [hK] at HCM hkk
                  have hjl : j < zs.length := by have := HN.out; omega
                  have HTL := Lib.hid (show ∀ t', tellC A zs b (s.g b) t' (M.1, M.2) = if K = 0 then t' else reachS t' b j (s.g b + K) from fun t' => by
                    unfold tellC
                    rw [show numN A (M.1, M.2) = j from hj, hK])
                  have HFO := Lib.hid (show (nbP A H cb.1 cb.2 (k + 1)).foldl (tellC A zs b (s.g b)) (settleB s b) = tellC A zs b (s.g b) t (M.1, M.2) from by
                    rw [HNB.out, List.foldl_append, ← HT.out]
                    rfl)
                  clear hjn hj hK hon
                  by_cases hK0 : K = 0
                  case pos =>
                    have HF2 := Lib.hid (show t = (nbP A H cb.1 cb.2 (k + 1)).foldl (tellC A zs b (s.g b)) (settleB s b) from by rw [HFO.out, HTL.out, if_pos hK0])
                    have hKb : (K == (0 : Int)) = true := by rw [beq_iff_eq]; exact hK0
                    clear hK0 hkk g1 g2
                    go_wp2_with fail
                    refine (HIN.out _).mono ?_
                    rintro e W13 ⟨rfl, hb13⟩
                    replace f0 := cell_later hb13 f0; replace f1 := cell_later hb13 f1; replace f2 := cell_later hb13 f2
                    replace e0 := cell_later hb13 e0; replace e1 := cell_later hb13 e1
                    have HB13 := Lib.hid (bl_tr HB12.out hb13)
                    clear hb13
                    go_wp2_with fail
                    refine (HCM.out _ (HRH.out _ (bl_tr HA10.out HB13.out))).mono ?_
                    rintro e W14 ⟨rfl, hb14⟩
                    have HB14 := Lib.hid (bl_tr HB13.out hb14)
                    clear hb14
                    go_wp2_with fail
                    go_roundw
                    case rel => exact ⟨k + 1, t, by omega, by go_num, HF2, HSt, HRt.out.below HB14.out, HKt.out.below HB14.out⟩
                    case measure => simp [intOf]; omega
                  case neg =>
                  have hKb : (K == (0 : Int)) = false := by rw [beq_eq_false_iff_ne]; exact hK0
                  go_wp2_with fail
                  refine (HIN.out _).mono ?_
                  rintro e W13 ⟨rfl, hb13⟩
                  replace f0 := cell_later hb13 f0; replace f1 := cell_later hb13 f1; replace f2 := cell_later hb13 f2
                  replace e0 := cell_later hb13 e0; replace e1 := cell_later hb13 e1
                  have HB13 := Lib.hid (bl_tr HB12.out hb13)
                  clear hb13
                  have zf4 := blk_lt f0; have ze4 := blk_lt e0
                  go_wp2_with fail
                  refine (HCM.out _ (HRH.out _ (bl_tr HA10.out HB13.out))).mono ?_
                  rintro e W14 ⟨rfl, hb14⟩
                  replace f0 := cell_later hb14 f0; replace f1 := cell_later hb14 f1; replace f2 := cell_later hb14 f2
                  replace e0 := cell_later hb14 e0; replace e1 := cell_later hb14 e1
                  have HB14 := Lib.hid (bl_tr HB13.out hb14)
                  clear hb14
                  have zf5 := blk_lt f0; have ze5 := blk_lt e0
                  obtain ⟨hSt1, hSt2, hSt3⟩ := HSt.out
                  have hR14 := HRt.out.below HB14.out
                  obtain ⟨tg, _⟩ := hR14.gAt HB1.out
                  rw [hSt3] at tg
                  have ztg := blk_lt tg
                  have hgb := HGB.out
                  have hgw : IntKind.u64.wrap (s.g b + K) = s.g b + K := by rw [IntKind.wrap_u64]; omega
                  have hj0 : (0 : Int) ≤ (j : Int) := by omega
                  have hj1 : (j : Int) < (zs.length : Int) := by omega
                  go_upto_region 36 with fail
                  have hB := bl_dr (bl0 W14)
                  go_cut [23] from 184 to 191 (fun sv wx => sv = .int .u64 (s.g b + K) ∧ Below W14.heap.size W14 wx)
                  case first =>
                    go_region_held3 (fun W => W.cell? ⟨w.heap.size, 0, none⟩ = some (.int .i64 A) ∧ W.cell? ⟨w.heap.size, 1, none⟩ = some (.int .i64 H) ∧ W.cell? ⟨w.heap.size, 2, none⟩ = some (.slice a zs.length cap) ∧ W.cell? ⟨W11.heap.size, 0, none⟩ = some (.int .i64 M.1) ∧ W.cell? ⟨W11.heap.size, 1, none⟩ = some (.int .i64 M.2) ∧ W.cell? ⟨gs + 1, b, none⟩ = some (.int .u64 (s.g b)))
                      (exact ⟨cell_later hB f0, cell_later hB f1, cell_later hB f2, cell_later hB e0, cell_later hB e1, cell_later hB tg⟩)
                      ((go_at_call 25; (with_reducible refine (HCM.out _ (HRH.out _ (bl_tr HA10.out (bl_tr HB14.out hB)))).mono ?_); rintro e w8 ⟨rfl, hb8⟩; replace hB := bl_tr hB hb8; clear hb8))
                    all_goals
                      go_wp2_with fail
                      go_meet
                      exact ⟨rfl, hB⟩
                  case rest =>
                  obtain ⟨rfl, hbw⟩ := hcut
                  obtain ⟨W15, rfl⟩ : ∃ W15, W15 = wc := ⟨_, rfl⟩
                  have HB15 := Lib.hid (bl_tr HB14.out hbw)
                  have HR15 := Lib.hid (HRt.out.below HB15.out)
                  have HK15 := Lib.hid (HKt.out.below HB15.out)
                  clear hbw hB f0 f1 f2 e0 e1 tg ztg hR14 zf1 zf2 zf3 ze3 zf4 ze4 zf5 ze5 g1 g2
                  obtain ⟨v0, v1⟩ := HR15.out.stAt hjl
                  obtain ⟨v2, v3⟩ := HR15.out.gAt hjl
                  obtain ⟨v4, v5⟩ := HR15.out.parAt hjl
                  have zv0 := blk_lt v0; have zv2 := blk_lt v2; have zv4 := blk_lt v4
                  have hx0 : 0 ≤ s.g b + K := by omega
                  have HX0 := Lib.hid hx0
                  have HSS := Lib.hid hSt1
                  have HJL := Lib.hid hjl
                  have HT2 := Lib.hid (show reachS t b j (s.g b + K) = (nbP A H cb.1 cb.2 (k + 1)).foldl (tellC A zs b (s.g b)) (settleB s b) from by rw [HFO.out, HTL.out, if_neg hK0])
                  have HS16 := Lib.hid (show Src s0 (reachS t b j (s.g b + K)) ∧ (reachS t b j (s.g b + K)).st b = 2 ∧ (reachS t b j (s.g b + K)).g b = s.g b from ⟨hSt1.reach hx0, (reach_self hSt2).1, (reach_self hSt2).2.trans hSt3⟩)
                  clear hSt1 hSt2 hSt3 hkk hK0 hKb hgb hgw hx0 HST8
                  go_upto_region 37 with fail
                  by_cases hc : t.st j = 0 ∨ t.st j = 1 ∧ s.g b + K < t.g j
                  case pos =>
                    have HC := Lib.hid hc
                    go_cut [211] from 192 to 210 (fun sv wx => sv = .bool true ∧ wx = W15)
                    case first =>
                      by_cases h0 : t.st j = 0
                      · have d1 : (((t.st j : Nat) : Int) == 0) = true := by rw [beq_iff_eq]; omega
                        clear h0 hc
                        go_wp2_with fail
                        go_meet
                        exact ⟨rfl, rfl⟩
                      · obtain ⟨h1, h2⟩ := hc.resolve_left h0
                        have d1 : (((t.st j : Nat) : Int) == 0) = false := by rw [beq_eq_false_iff_ne]; omega
                        have d2 : (((t.st j : Nat) : Int) == 1) = true := by rw [beq_iff_eq]; omega
                        have d3 : decide (s.g b + K < t.g j) = true := decide_eq_true h2
                        clear h0 hc h1 h2
                        go_wp2_with fail
                        go_meet
                        exact ⟨rfl, rfl⟩
                    case rest =>
                    obtain ⟨rfl, rfl⟩ := hcut
                    have HR16 := Lib.hid (HR15.out.reach (b := b) HJL.out (HSS.out.no HX0.out HC.out) HC.out (show gs ≠ gs + 1 by omega) (show gs ≠ gs + 1 + 1 by omega) (show gs + 1 ≠ gs + 1 + 1 by omega))
                    have HK16 := Lib.hid (((HK15.out.trans (KeptS.of_grown (S := fun x => x = gs ∨ x = gs + 1 ∨ x = gs + 1 + 1) (hgrown_set _ gs j (.int .i64 1)) (fun x e _ => by cases e; exact .inl rfl)) (fun _ _ h => h)).trans (KeptS.of_grown (S := fun x => x = gs ∨ x = gs + 1 ∨ x = gs + 1 + 1) (hgrown_set _ (gs + 1) j (.int .u64 (s.g b + K))) (fun x e _ => by cases e; exact .inr (.inl rfl))) (fun _ _ h => h)).trans (KeptS.of_grown (S := fun x => x = gs ∨ x = gs + 1 ∨ x = gs + 1 + 1) (hgrown_set _ (gs + 1 + 1) j (.int .i64 (b : Nat))) (fun x e _ => by cases e; exact .inr (.inr rfl))) (fun _ _ h => h))
                    clear hc
                    go_wp2_with fail
                    go_roundw
                    case rel => exact ⟨k + 1, reachS t b j (s.g b + K), by omega, by go_num, HT2, HS16, HR16, HK16⟩
                    case measure => simp [intOf]; omega
                  case neg =>
                    have HC := Lib.hid hc
                    go_cut [211] from 192 to 210 (fun sv wx => sv = .bool false ∧ wx = W15)
                    case first =>
                      have d1 : (((t.st j : Nat) : Int) == 0) = false := by rw [beq_eq_false_iff_ne]; intro q; exact hc (.inl (by omega))
                      by_cases h1 : t.st j = 1
                      · have d2 : (((t.st j : Nat) : Int) == 1) = true := by rw [beq_iff_eq]; omega
                        have d3 : decide (s.g b + K < t.g j) = false := decide_eq_false (fun q => hc (.inr ⟨h1, q⟩))
                        clear hc h1
                        go_wp2_with fail
                        go_meet
                        exact ⟨rfl, rfl⟩
                      · have d2 : (((t.st j : Nat) : Int) == 1) = false := by rw [beq_eq_false_iff_ne]; omega
                        clear hc h1
                        go_wp2_with fail
                        go_meet
                        exact ⟨rfl, rfl⟩
                    case rest =>
                    obtain ⟨rfl, rfl⟩ := hcut
                    have HN16 := Lib.hid (reach_no (b := b) HC.out)
                    clear hc
                    go_wp2_with fail
                    go_roundw
                    case rel => exact ⟨k + 1, reachS t b j (s.g b + K), by omega, by go_num, HT2, HS16, by rw [HN16.out]; exact HR15, HK15⟩
                    case measure => simp [intOf]; omega
                · obtain rfl : k = 4 := by omega
                  have HI2 := Lib.hid (HNX.out n b s HI.out HBS.out HBU.out HGL.out)
                  have HT4 := Lib.hid (show t = settleA (fun j => zs.getD j 0) (nbS A H zs b) s b from by rw [settle_cells, HCB.out]; exact HT.out)
                  have hln := HI2.out.le
                  clear hlt hk0
                  go_wp2_with fail
                  go_roundw
                  case rel => exact ⟨n + 1, t, by go_num, by rw [HT4.out]; exact HI2, HRt, HK10⟩
                  case measure => simp [intOf]; omega
end Go.Proofs.YtldpajfendkhbaaDoor
