/- A search by guess: the reference's calls. -/
import Derived.Test.YtldpajfendkhbaaDoorNv
namespace Go.Proofs.YtldpajfendkhbaaDoor
open Go.RowKit

set_option maxRecDepth 100000 in
set_option maxHeartbeats 4000000 in
theorem rstepS_any (X Y d : Int) (w : World) (hp : plainB X Y = true) (h0 : 0 ≤ d) (h4 : d < 4) :
    Calls Tryd.prog 27 #[.agg #[.int .i64 X, .int .i64 Y], .int .i64 d] w fun e w' => e = .returned (.agg #[.int .i64 (stepI (X, Y) d).1, .int .i64 (stepI (X, Y) d).2]) ∧ Below w.heap.size w w' := by
  obtain ⟨a1, a2, a3, a4⟩ := plainB_iff.1 hp
  obtain ⟨Z, hZ⟩ : ∃ Z, (stepI (X, Y) d).1 = Z := ⟨_, rfl⟩
  obtain ⟨W, hW⟩ : ∃ W, (stepI (X, Y) d).2 = W := ⟨_, rfl⟩
  rw [hZ, hW]
  obtain rfl | rfl | rfl | rfl : d = 0 ∨ d = 1 ∨ d = 2 ∨ d = 3 := by omega
  all_goals
    simp [stepI, dxI, dyI] at hZ hW
    subst hZ hW
    go_enter Tryd.func27, Tryd.ntmps27
    go_wp2
    refine bodyPost_ret (v := .agg #[.int .i64 _, .int .i64 _]) (by simp [results, Tryd.results27, go_sem] <;> omega) rfl ⟨rfl, ?_⟩
    first
    | exact bl_al (bl_al (bl0 _) _) _
    | exact bl_al (bl_st (bl_al (bl0 _) _) (by omega) _) _
    | exact bl_st (bl_st (bl_al (bl_al (bl0 _) _) _) (by omega) _) (by omega) _
    | exact bl_st (bl_st (bl_st (bl_al (bl_al (bl0 _) _) _) (by omega) _) (by omega) _) (by omega) _

set_option maxRecDepth 100000 in
set_option maxHeartbeats 2000000 in
theorem rcostS_any (A B : Int) (a : Option Addr) (cap : Nat) (zs : List Int) (c : IC) (w : World) (hr : RowH w a zs) (hin : AllH zs) (hi : onB A B c = true) (hn : (zs.length : Int) = A * B) :
    Calls Tryd.prog 25 #[.agg #[.int .i64 A, .int .i64 B, .slice a zs.length cap], .agg #[.int .i64 c.1, .int .i64 c.2]] w fun e w' => e = .returned (.int .u64 (zs.getD (numN A c) 0)) ∧ Below w.heap.size w w' := by
  obtain ⟨n1, n2⟩ := numN_int hi
  obtain ⟨h1, h2, h3, h4, h5, h6, h7, h8⟩ := inB_iff.1 hi
  obtain ⟨m1, m2⟩ := mul_bd h7 (by omega) h1 h2
  obtain ⟨z1, z2⟩ := getD_in hin (numN A c)
  have hl : numN A c < zs.length := by omega
  have e1 : IntKind.i64.wrap (c.2 * A) = c.2 * A := IntWalk.i64_in _ (by omega)
  have e2 : IntKind.i64.wrap (c.2 * A + c.1) = (numN A c : Int) := by rw [n1]; exact IntWalk.i64_in _ (by omega)
  have hj0 : (0 : Int) ≤ (numN A c : Int) := by omega
  have hl2 : (numN A c : Int) < (zs.length : Int) := by omega
  obtain ⟨gb, go, rfl, q⟩ := hr.cell hl
  rw [show zs[numN A c] = zs.getD (numN A c) 0 by rw [List.getD_eq_getElem?_getD, List.getElem?_eq_getElem hl]; rfl] at q
  generalize zs.getD (numN A c) 0 = z at *
  have e3 : IntKind.u64.wrap z = z := by rw [IntKind.wrap_u64]; omega
  replace q := cell_later (bl_al (bl_al (bl0 w) (.cells #[.int .i64 A, .int .i64 B, .slice (some ⟨gb, go, none⟩) zs.length cap] 26)) (.cells #[.int .i64 c.1, .int .i64 c.2] 28)) q
  clear hr hi hn h1 h2 h3 h4 h5 h6 h7 h8 m1 m2 z1 z2 hl n1 n2
  generalize numN A c = j at *
  go_enter Tryd.func25, Tryd.ntmps25
  go_wp2
  go_ret
  exact ⟨rfl, bl_al (bl_al (bl0 _) _) _⟩


def frB (ga ha gb hb : Int) (a b : IC) : Bool := decide (ga + ha < gb + hb ∨ ga + ha = gb + hb ∧ (ha < hb ∨ ha = hb ∧ (a.2 < b.2 ∨ a.2 = b.2 ∧ a.1 < b.1)))
theorem frB_less {A : Int} {g h : Nat → Int} {i j : Nat} (hA : 1 ≤ A) : frB (g i) (h i) (g j) (h j) (cellN A i) (cellN A j) = lessA g h i j := by
  unfold frB lessA
  refine decide_eq_decide.2 ?_
  have e1 := Int.emod_add_mul_ediv (i : Int) A
  have e2 := Int.emod_add_mul_ediv (j : Int) A
  have p1 := Int.emod_nonneg (i : Int) (show A ≠ 0 by omega)
  have p2 := Int.emod_nonneg (j : Int) (show A ≠ 0 by omega)
  have q1 := Int.emod_lt_of_pos (i : Int) (show 0 < A by omega)
  have q2 := Int.emod_lt_of_pos (j : Int) (show 0 < A by omega)
  have key : ((cellN A i).2 < (cellN A j).2 ∨ (cellN A i).2 = (cellN A j).2 ∧ (cellN A i).1 < (cellN A j).1) ↔ i < j := by
    unfold cellN
    simp only
    generalize (i : Int) / A = a at *
    generalize (j : Int) / A = b at *
    generalize (i : Int) % A = u at *
    generalize (j : Int) % A = v at *
    have hlt : ∀ a b u v : Int, a < b → u < A → 0 ≤ v → u + A * a < v + A * b := fun a b u v h1 h2 h3 => by
      have : A * (a + 1) ≤ A * b := Int.mul_le_mul_of_nonneg_left (by omega) (by omega)
      rw [Int.mul_add] at this
      omega
    constructor
    · rintro (h | ⟨h, h2⟩)
      · have := hlt a b u v h q1 p2
        omega
      · subst h
        omega
    · intro h
      by_cases e : a = b
      · subst e
        exact .inr ⟨rfl, by omega⟩
      · by_cases e2 : a < b
        · exact .inl e2
        · have := hlt b a v u (by omega) q2 p1
          omega
  rw [key]
set_option maxRecDepth 100000 in
set_option maxHeartbeats 2000000 in
theorem rfirst_any (a b t : IC) (ga gb : Int) (w : World) (ha : plB a = true) (hb : plB b = true) (ht : plB t = true) (g1 : 0 ≤ ga ∧ ga ≤ 4611686018427387904) (g2 : 0 ≤ gb ∧ gb ≤ 4611686018427387904) :
    Calls Tryd.prog 26 #[.agg #[.int .i64 a.1, .int .i64 a.2], .int .u64 ga, .agg #[.int .i64 b.1, .int .i64 b.2], .int .u64 gb, .agg #[.int .i64 t.1, .int .i64 t.2]] w fun e w' => e = .returned (.bool (frB ga (guessI a t) gb (guessI b t) a b)) ∧ Below w.heap.size w w' := by
  obtain ⟨b1, b2⟩ := guess_bd ha ht
  obtain ⟨b3, b4⟩ := guess_bd hb ht
  have GA := Lib.hid (fun w => guess10_any a t w ha ht)
  have GB := Lib.hid (fun w => guess10_any b t w hb ht)
  unfold frB
  generalize guessI a t = x at *
  generalize guessI b t = y at *
  have e1 : IntKind.u64.wrap (ga + x) = ga + x := by rw [IntKind.wrap_u64]; omega
  have e2 : IntKind.u64.wrap (gb + y) = gb + y := by rw [IntKind.wrap_u64]; omega
  have hA := bl0 w
  by_cases c1 : ga + x = gb + y
  · have d1 : (ga + x != gb + y) = false := by rw [bne_eq_false_iff_eq]; exact c1
    by_cases c2 : x = y
    · have d2 : (x != y) = false := by rw [bne_eq_false_iff_eq]; exact c2
      by_cases c3 : a.2 = b.2
      · have d3 : (a.2 != b.2) = false := by rw [bne_eq_false_iff_eq]; exact c3
        have HE := Lib.hid (show decide (a.1 < b.1) = decide (ga + x < gb + y ∨ ga + x = gb + y ∧ (x < y ∨ x = y ∧ (a.2 < b.2 ∨ a.2 = b.2 ∧ a.1 < b.1))) from decide_eq_decide.2 (by omega))
        rw [← HE.out]
        clear c1 c2 c3 ha hb ht g1 g2 b1 b2 b3 b4
        go_enter Tryd.func26, Tryd.ntmps26
        go_wp2_with fail
        refine (GA.out _).mono ?_
        rintro e w1 ⟨rfl, hb⟩
        have hk : Below w.heap.size w w1 := by first | exact hb | exact bl_tr (bl_al (bl0 _) _) hb | exact bl_tr (bl_dr (bl_al (bl0 _) _)) hb | exact bl_tr (bl_al (bl_al (bl0 _) _) _) hb | exact bl_tr (bl_dr (bl_al (bl_al (bl0 _) _) _)) hb | exact bl_tr (bl_al (bl_al (bl_al (bl0 _) _) _) _) hb | exact bl_tr (bl_dr (bl_al (bl_al (bl_al (bl0 _) _) _) _)) hb | exact bl_tr (bl_al (bl_al (bl_al (bl_al (bl0 _) _) _) _) _) hb | exact bl_tr (bl_dr (bl_al (bl_al (bl_al (bl_al (bl0 _) _) _) _) _)) hb | exact bl_tr (bl_al (bl_al (bl_al (bl_al (bl_al (bl0 _) _) _) _) _) _) hb | exact bl_tr (bl_dr (bl_al (bl_al (bl_al (bl_al (bl_al (bl0 _) _) _) _) _) _)) hb | exact bl_tr (bl_al (bl_al (bl_al (bl_al (bl_al (bl_al (bl0 _) _) _) _) _) _) _) hb | exact bl_tr (bl_dr (bl_al (bl_al (bl_al (bl_al (bl_al (bl_al (bl0 _) _) _) _) _) _) _)) hb | exact bl_tr (bl_dr (bl0 _)) hb
        replace hA := bl_tr hA hk
        have x0 := cell_later hb (v := .int .i64 a.1) (a := ⟨w.heap.size, 0, none⟩) (by simp [go_sem])
        have x1 := cell_later hb (v := .int .i64 a.2) (a := ⟨w.heap.size, 1, none⟩) (by simp [go_sem])
        have y0 := cell_later hb (v := .int .i64 b.1) (a := ⟨w.heap.size + 1, 0, none⟩) (by simp [go_sem])
        have y1 := cell_later hb (v := .int .i64 b.2) (a := ⟨w.heap.size + 1, 1, none⟩) (by simp [go_sem])
        have z0 := cell_later hb (v := .int .i64 t.1) (a := ⟨w.heap.size + 1 + 1, 0, none⟩) (by simp [go_sem])
        have z1 := cell_later hb (v := .int .i64 t.2) (a := ⟨w.heap.size + 1 + 1, 1, none⟩) (by simp [go_sem])
        clear hb hk
        have zx0 := blk_lt x0
        have zx1 := blk_lt x1
        have zy0 := blk_lt y0
        have zy1 := blk_lt y1
        have zz0 := blk_lt z0
        have zz1 := blk_lt z1
        go_wp2_with fail
        refine (GB.out _).mono ?_
        rintro e w2 ⟨rfl, hb⟩
        have hk : Below w1.heap.size w1 w2 := by first | exact hb | exact bl_tr (bl_al (bl0 _) _) hb | exact bl_tr (bl_dr (bl_al (bl0 _) _)) hb | exact bl_tr (bl_al (bl_al (bl0 _) _) _) hb | exact bl_tr (bl_dr (bl_al (bl_al (bl0 _) _) _)) hb | exact bl_tr (bl_al (bl_al (bl_al (bl0 _) _) _) _) hb | exact bl_tr (bl_dr (bl_al (bl_al (bl_al (bl0 _) _) _) _)) hb | exact bl_tr (bl_al (bl_al (bl_al (bl_al (bl0 _) _) _) _) _) hb | exact bl_tr (bl_dr (bl_al (bl_al (bl_al (bl_al (bl0 _) _) _) _) _)) hb | exact bl_tr (bl_al (bl_al (bl_al (bl_al (bl_al (bl0 _) _) _) _) _) _) hb | exact bl_tr (bl_dr (bl_al (bl_al (bl_al (bl_al (bl_al (bl0 _) _) _) _) _) _)) hb | exact bl_tr (bl_al (bl_al (bl_al (bl_al (bl_al (bl_al (bl0 _) _) _) _) _) _) _) hb | exact bl_tr (bl_dr (bl_al (bl_al (bl_al (bl_al (bl_al (bl_al (bl0 _) _) _) _) _) _) _)) hb | exact bl_tr (bl_dr (bl0 _)) hb
        replace hA := bl_tr hA hk
        replace x0 := cell_later hk x0
        replace x1 := cell_later hk x1
        replace y0 := cell_later hk y0
        replace y1 := cell_later hk y1
        replace z0 := cell_later hk z0
        replace z1 := cell_later hk z1
        clear hb hk
        have zx0 := blk_lt x0
        have zx1 := blk_lt x1
        have zy0 := blk_lt y0
        have zy1 := blk_lt y1
        have zz0 := blk_lt z0
        have zz1 := blk_lt z1
        go_wp2
        go_ret
        exact ⟨rfl, hA⟩
      · have d3 : (a.2 != b.2) = true := by rw [bne_iff_ne]; exact c3
        have HE := Lib.hid (show decide (a.2 < b.2) = decide (ga + x < gb + y ∨ ga + x = gb + y ∧ (x < y ∨ x = y ∧ (a.2 < b.2 ∨ a.2 = b.2 ∧ a.1 < b.1))) from decide_eq_decide.2 (by omega))
        rw [← HE.out]
        clear c1 c2 c3 ha hb ht g1 g2 b1 b2 b3 b4
        go_enter Tryd.func26, Tryd.ntmps26
        go_wp2_with fail
        refine (GA.out _).mono ?_
        rintro e w1 ⟨rfl, hb⟩
        have hk : Below w.heap.size w w1 := by first | exact hb | exact bl_tr (bl_al (bl0 _) _) hb | exact bl_tr (bl_dr (bl_al (bl0 _) _)) hb | exact bl_tr (bl_al (bl_al (bl0 _) _) _) hb | exact bl_tr (bl_dr (bl_al (bl_al (bl0 _) _) _)) hb | exact bl_tr (bl_al (bl_al (bl_al (bl0 _) _) _) _) hb | exact bl_tr (bl_dr (bl_al (bl_al (bl_al (bl0 _) _) _) _)) hb | exact bl_tr (bl_al (bl_al (bl_al (bl_al (bl0 _) _) _) _) _) hb | exact bl_tr (bl_dr (bl_al (bl_al (bl_al (bl_al (bl0 _) _) _) _) _)) hb | exact bl_tr (bl_al (bl_al (bl_al (bl_al (bl_al (bl0 _) _) _) _) _) _) hb | exact bl_tr (bl_dr (bl_al (bl_al (bl_al (bl_al (bl_al (bl0 _) _) _) _) _) _)) hb | exact bl_tr (bl_al (bl_al (bl_al (bl_al (bl_al (bl_al (bl0 _) _) _) _) _) _) _) hb | exact bl_tr (bl_dr (bl_al (bl_al (bl_al (bl_al (bl_al (bl_al (bl0 _) _) _) _) _) _) _)) hb | exact bl_tr (bl_dr (bl0 _)) hb
        replace hA := bl_tr hA hk
        have x0 := cell_later hb (v := .int .i64 a.1) (a := ⟨w.heap.size, 0, none⟩) (by simp [go_sem])
        have x1 := cell_later hb (v := .int .i64 a.2) (a := ⟨w.heap.size, 1, none⟩) (by simp [go_sem])
        have y0 := cell_later hb (v := .int .i64 b.1) (a := ⟨w.heap.size + 1, 0, none⟩) (by simp [go_sem])
        have y1 := cell_later hb (v := .int .i64 b.2) (a := ⟨w.heap.size + 1, 1, none⟩) (by simp [go_sem])
        have z0 := cell_later hb (v := .int .i64 t.1) (a := ⟨w.heap.size + 1 + 1, 0, none⟩) (by simp [go_sem])
        have z1 := cell_later hb (v := .int .i64 t.2) (a := ⟨w.heap.size + 1 + 1, 1, none⟩) (by simp [go_sem])
        clear hb hk
        have zx0 := blk_lt x0
        have zx1 := blk_lt x1
        have zy0 := blk_lt y0
        have zy1 := blk_lt y1
        have zz0 := blk_lt z0
        have zz1 := blk_lt z1
        go_wp2_with fail
        refine (GB.out _).mono ?_
        rintro e w2 ⟨rfl, hb⟩
        have hk : Below w1.heap.size w1 w2 := by first | exact hb | exact bl_tr (bl_al (bl0 _) _) hb | exact bl_tr (bl_dr (bl_al (bl0 _) _)) hb | exact bl_tr (bl_al (bl_al (bl0 _) _) _) hb | exact bl_tr (bl_dr (bl_al (bl_al (bl0 _) _) _)) hb | exact bl_tr (bl_al (bl_al (bl_al (bl0 _) _) _) _) hb | exact bl_tr (bl_dr (bl_al (bl_al (bl_al (bl0 _) _) _) _)) hb | exact bl_tr (bl_al (bl_al (bl_al (bl_al (bl0 _) _) _) _) _) hb | exact bl_tr (bl_dr (bl_al (bl_al (bl_al (bl_al (bl0 _) _) _) _) _)) hb | exact bl_tr (bl_al (bl_al (bl_al (bl_al (bl_al (bl0 _) _) _) _) _) _) hb | exact bl_tr (bl_dr (bl_al (bl_al (bl_al (bl_al (bl_al (bl0 _) _) _) _) _) _)) hb | exact bl_tr (bl_al (bl_al (bl_al (bl_al (bl_al (bl_al (bl0 _) _) _) _) _) _) _) hb | exact bl_tr (bl_dr (bl_al (bl_al (bl_al (bl_al (bl_al (bl_al (bl0 _) _) _) _) _) _) _)) hb | exact bl_tr (bl_dr (bl0 _)) hb
        replace hA := bl_tr hA hk
        replace x0 := cell_later hk x0
        replace x1 := cell_later hk x1
        replace y0 := cell_later hk y0
        replace y1 := cell_later hk y1
        replace z0 := cell_later hk z0
        replace z1 := cell_later hk z1
        clear hb hk
        have zx0 := blk_lt x0
        have zx1 := blk_lt x1
        have zy0 := blk_lt y0
        have zy1 := blk_lt y1
        have zz0 := blk_lt z0
        have zz1 := blk_lt z1
        go_wp2
        go_ret
        exact ⟨rfl, hA⟩
    · have d2 : (x != y) = true := by rw [bne_iff_ne]; exact c2
      have HE := Lib.hid (show decide (x < y) = decide (ga + x < gb + y ∨ ga + x = gb + y ∧ (x < y ∨ x = y ∧ (a.2 < b.2 ∨ a.2 = b.2 ∧ a.1 < b.1))) from decide_eq_decide.2 (by omega))
      rw [← HE.out]
      clear c1 c2 ha hb ht g1 g2 b1 b2 b3 b4
      go_enter Tryd.func26, Tryd.ntmps26
      go_wp2_with fail
      refine (GA.out _).mono ?_
      rintro e w1 ⟨rfl, hb⟩
      have hk : Below w.heap.size w w1 := by first | exact hb | exact bl_tr (bl_al (bl0 _) _) hb | exact bl_tr (bl_dr (bl_al (bl0 _) _)) hb | exact bl_tr (bl_al (bl_al (bl0 _) _) _) hb | exact bl_tr (bl_dr (bl_al (bl_al (bl0 _) _) _)) hb | exact bl_tr (bl_al (bl_al (bl_al (bl0 _) _) _) _) hb | exact bl_tr (bl_dr (bl_al (bl_al (bl_al (bl0 _) _) _) _)) hb | exact bl_tr (bl_al (bl_al (bl_al (bl_al (bl0 _) _) _) _) _) hb | exact bl_tr (bl_dr (bl_al (bl_al (bl_al (bl_al (bl0 _) _) _) _) _)) hb | exact bl_tr (bl_al (bl_al (bl_al (bl_al (bl_al (bl0 _) _) _) _) _) _) hb | exact bl_tr (bl_dr (bl_al (bl_al (bl_al (bl_al (bl_al (bl0 _) _) _) _) _) _)) hb | exact bl_tr (bl_al (bl_al (bl_al (bl_al (bl_al (bl_al (bl0 _) _) _) _) _) _) _) hb | exact bl_tr (bl_dr (bl_al (bl_al (bl_al (bl_al (bl_al (bl_al (bl0 _) _) _) _) _) _) _)) hb | exact bl_tr (bl_dr (bl0 _)) hb
      replace hA := bl_tr hA hk
      have x0 := cell_later hb (v := .int .i64 a.1) (a := ⟨w.heap.size, 0, none⟩) (by simp [go_sem])
      have x1 := cell_later hb (v := .int .i64 a.2) (a := ⟨w.heap.size, 1, none⟩) (by simp [go_sem])
      have y0 := cell_later hb (v := .int .i64 b.1) (a := ⟨w.heap.size + 1, 0, none⟩) (by simp [go_sem])
      have y1 := cell_later hb (v := .int .i64 b.2) (a := ⟨w.heap.size + 1, 1, none⟩) (by simp [go_sem])
      have z0 := cell_later hb (v := .int .i64 t.1) (a := ⟨w.heap.size + 1 + 1, 0, none⟩) (by simp [go_sem])
      have z1 := cell_later hb (v := .int .i64 t.2) (a := ⟨w.heap.size + 1 + 1, 1, none⟩) (by simp [go_sem])
      clear hb hk
      have zx0 := blk_lt x0
      have zx1 := blk_lt x1
      have zy0 := blk_lt y0
      have zy1 := blk_lt y1
      have zz0 := blk_lt z0
      have zz1 := blk_lt z1
      go_wp2_with fail
      refine (GB.out _).mono ?_
      rintro e w2 ⟨rfl, hb⟩
      have hk : Below w1.heap.size w1 w2 := by first | exact hb | exact bl_tr (bl_al (bl0 _) _) hb | exact bl_tr (bl_dr (bl_al (bl0 _) _)) hb | exact bl_tr (bl_al (bl_al (bl0 _) _) _) hb | exact bl_tr (bl_dr (bl_al (bl_al (bl0 _) _) _)) hb | exact bl_tr (bl_al (bl_al (bl_al (bl0 _) _) _) _) hb | exact bl_tr (bl_dr (bl_al (bl_al (bl_al (bl0 _) _) _) _)) hb | exact bl_tr (bl_al (bl_al (bl_al (bl_al (bl0 _) _) _) _) _) hb | exact bl_tr (bl_dr (bl_al (bl_al (bl_al (bl_al (bl0 _) _) _) _) _)) hb | exact bl_tr (bl_al (bl_al (bl_al (bl_al (bl_al (bl0 _) _) _) _) _) _) hb | exact bl_tr (bl_dr (bl_al (bl_al (bl_al (bl_al (bl_al (bl0 _) _) _) _) _) _)) hb | exact bl_tr (bl_al (bl_al (bl_al (bl_al (bl_al (bl_al (bl0 _) _) _) _) _) _) _) hb | exact bl_tr (bl_dr (bl_al (bl_al (bl_al (bl_al (bl_al (bl_al (bl0 _) _) _) _) _) _) _)) hb | exact bl_tr (bl_dr (bl0 _)) hb
      replace hA := bl_tr hA hk
      replace x0 := cell_later hk x0
      replace x1 := cell_later hk x1
      replace y0 := cell_later hk y0
      replace y1 := cell_later hk y1
      replace z0 := cell_later hk z0
      replace z1 := cell_later hk z1
      clear hb hk
      have zx0 := blk_lt x0
      have zx1 := blk_lt x1
      have zy0 := blk_lt y0
      have zy1 := blk_lt y1
      have zz0 := blk_lt z0
      have zz1 := blk_lt z1
      go_wp2
      go_ret
      exact ⟨rfl, hA⟩
  · have d1 : (ga + x != gb + y) = true := by rw [bne_iff_ne]; exact c1
    have HE := Lib.hid (show decide (ga + x < gb + y) = decide (ga + x < gb + y ∨ ga + x = gb + y ∧ (x < y ∨ x = y ∧ (a.2 < b.2 ∨ a.2 = b.2 ∧ a.1 < b.1))) from decide_eq_decide.2 (by omega))
    rw [← HE.out]
    clear c1 ha hb ht g1 g2 b1 b2 b3 b4
    go_enter Tryd.func26, Tryd.ntmps26
    go_wp2_with fail
    refine (GA.out _).mono ?_
    rintro e w1 ⟨rfl, hb⟩
    have hk : Below w.heap.size w w1 := by first | exact hb | exact bl_tr (bl_al (bl0 _) _) hb | exact bl_tr (bl_dr (bl_al (bl0 _) _)) hb | exact bl_tr (bl_al (bl_al (bl0 _) _) _) hb | exact bl_tr (bl_dr (bl_al (bl_al (bl0 _) _) _)) hb | exact bl_tr (bl_al (bl_al (bl_al (bl0 _) _) _) _) hb | exact bl_tr (bl_dr (bl_al (bl_al (bl_al (bl0 _) _) _) _)) hb | exact bl_tr (bl_al (bl_al (bl_al (bl_al (bl0 _) _) _) _) _) hb | exact bl_tr (bl_dr (bl_al (bl_al (bl_al (bl_al (bl0 _) _) _) _) _)) hb | exact bl_tr (bl_al (bl_al (bl_al (bl_al (bl_al (bl0 _) _) _) _) _) _) hb | exact bl_tr (bl_dr (bl_al (bl_al (bl_al (bl_al (bl_al (bl0 _) _) _) _) _) _)) hb | exact bl_tr (bl_al (bl_al (bl_al (bl_al (bl_al (bl_al (bl0 _) _) _) _) _) _) _) hb | exact bl_tr (bl_dr (bl_al (bl_al (bl_al (bl_al (bl_al (bl_al (bl0 _) _) _) _) _) _) _)) hb | exact bl_tr (bl_dr (bl0 _)) hb
    replace hA := bl_tr hA hk
    have x0 := cell_later hb (v := .int .i64 a.1) (a := ⟨w.heap.size, 0, none⟩) (by simp [go_sem])
    have x1 := cell_later hb (v := .int .i64 a.2) (a := ⟨w.heap.size, 1, none⟩) (by simp [go_sem])
    have y0 := cell_later hb (v := .int .i64 b.1) (a := ⟨w.heap.size + 1, 0, none⟩) (by simp [go_sem])
    have y1 := cell_later hb (v := .int .i64 b.2) (a := ⟨w.heap.size + 1, 1, none⟩) (by simp [go_sem])
    have z0 := cell_later hb (v := .int .i64 t.1) (a := ⟨w.heap.size + 1 + 1, 0, none⟩) (by simp [go_sem])
    have z1 := cell_later hb (v := .int .i64 t.2) (a := ⟨w.heap.size + 1 + 1, 1, none⟩) (by simp [go_sem])
    clear hb hk
    have zx0 := blk_lt x0
    have zx1 := blk_lt x1
    have zy0 := blk_lt y0
    have zy1 := blk_lt y1
    have zz0 := blk_lt z0
    have zz1 := blk_lt z1
    go_wp2_with fail
    refine (GB.out _).mono ?_
    rintro e w2 ⟨rfl, hb⟩
    have hk : Below w1.heap.size w1 w2 := by first | exact hb | exact bl_tr (bl_al (bl0 _) _) hb | exact bl_tr (bl_dr (bl_al (bl0 _) _)) hb | exact bl_tr (bl_al (bl_al (bl0 _) _) _) hb | exact bl_tr (bl_dr (bl_al (bl_al (bl0 _) _) _)) hb | exact bl_tr (bl_al (bl_al (bl_al (bl0 _) _) _) _) hb | exact bl_tr (bl_dr (bl_al (bl_al (bl_al (bl0 _) _) _) _)) hb | exact bl_tr (bl_al (bl_al (bl_al (bl_al (bl0 _) _) _) _) _) hb | exact bl_tr (bl_dr (bl_al (bl_al (bl_al (bl_al (bl0 _) _) _) _) _)) hb | exact bl_tr (bl_al (bl_al (bl_al (bl_al (bl_al (bl0 _) _) _) _) _) _) hb | exact bl_tr (bl_dr (bl_al (bl_al (bl_al (bl_al (bl_al (bl0 _) _) _) _) _) _)) hb | exact bl_tr (bl_al (bl_al (bl_al (bl_al (bl_al (bl_al (bl0 _) _) _) _) _) _) _) hb | exact bl_tr (bl_dr (bl_al (bl_al (bl_al (bl_al (bl_al (bl_al (bl0 _) _) _) _) _) _) _)) hb | exact bl_tr (bl_dr (bl0 _)) hb
    replace hA := bl_tr hA hk
    replace x0 := cell_later hk x0
    replace x1 := cell_later hk x1
    replace y0 := cell_later hk y0
    replace y1 := cell_later hk y1
    replace z0 := cell_later hk z0
    replace z1 := cell_later hk z1
    clear hb hk
    have zx0 := blk_lt x0
    have zx1 := blk_lt x1
    have zy0 := blk_lt y0
    have zy1 := blk_lt y1
    have zz0 := blk_lt z0
    have zz1 := blk_lt z1
    go_wp2
    go_ret
    exact ⟨rfl, hA⟩
end Go.Proofs.YtldpajfendkhbaaDoor
