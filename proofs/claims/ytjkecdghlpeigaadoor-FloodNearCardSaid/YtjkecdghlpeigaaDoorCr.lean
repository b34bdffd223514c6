/- Least costs: the laws' plain helpers: whether a box has a cell, the next cell, how far a cell is. -/
import Derived.Test.YtjkecdghlpeigaaDoorCp
namespace Go.Proofs.YtjkecdghlpeigaaDoor
open Go.RowKit

def wf64 (n : Int) : Prop := -9223372036854775808 ≤ n ∧ n ≤ 9223372036854775807
set_option maxRecDepth 100000 in
set_option maxHeartbeats 4000000 in
theorem rhas8_any (X Y U V : Int) (c : IC) (w : World) (hb : rightB X Y U V = true) (h0 : 0 ≤ X ∧ 0 ≤ Y) (hc : wf64 c.1 ∧ wf64 c.2) :
    Calls Tryd.prog 22 #[.agg #[.int .i64 X, .int .i64 Y, .int .i64 U, .int .i64 V], .agg #[.int .i64 c.1, .int .i64 c.2]] w fun e w' => e = .returned (.bool (inBx (X, Y, U, V) c)) ∧ Below w.heap.size w w' := by
  obtain ⟨r1, r2, r3, r4, r5, r6, r7, r8⟩ := rightB_iff.1 hb
  unfold wf64 at hc
  obtain ⟨t, ht⟩ : ∃ t, inBx (X, Y, U, V) c = t := ⟨_, rfl⟩
  have hiff : t = true ↔ X ≤ c.1 ∧ c.1 < X + U ∧ Y ≤ c.2 ∧ c.2 < Y + V := by
    rw [← ht]
    show hasB X Y U V c.1 c.2 = true ↔ _
    rw [hasB_iff]
    exact ⟨fun h => h.2, fun h => ⟨hb, h⟩⟩
  rw [ht]
  have HIFF := Lib.hid hiff
  clear ht hiff hb
  have hA := bl_al (bl_al (bl0 w) (.cells #[.int .i64 X, .int .i64 Y, .int .i64 U, .int .i64 V] 28)) (.cells #[.int .i64 c.1, .int .i64 c.2] 30)
  by_cases h1 : X ≤ c.1
  · have hw1 : IntKind.i64.wrap (c.1 - X) = c.1 - X := IntWalk.i64_in _ (by omega)
    by_cases h2 : Y ≤ c.2
    · have hw2 : IntKind.i64.wrap (c.2 - Y) = c.2 - Y := IntWalk.i64_in _ (by omega)
      by_cases h3 : c.1 - X < U
      · by_cases h4 : c.2 - Y < V
        · have d4 : decide (c.2 - Y < V) = true := decide_eq_true h4
          have htt : t = true := HIFF.out.2 ⟨by omega, by omega, by omega, by omega⟩
          subst htt
          go_enter Tryd.func22, Tryd.ntmps22
          go_wp2
          go_ret
          exact ⟨rfl, hA⟩
        · have htt : t = false := by cases t; rfl; have := HIFF.out.1 rfl; omega
          subst htt
          go_enter Tryd.func22, Tryd.ntmps22
          go_wp2
          go_ret
          exact ⟨rfl, hA⟩
      · have htt : t = false := by cases t; rfl; have := HIFF.out.1 rfl; omega
        subst htt
        go_enter Tryd.func22, Tryd.ntmps22
        go_wp2
        go_ret
        exact ⟨rfl, hA⟩
    · have htt : t = false := by cases t; rfl; have := HIFF.out.1 rfl; omega
      subst htt
      go_enter Tryd.func22, Tryd.ntmps22
      go_wp2
      go_ret
      exact ⟨rfl, hA⟩
  · have htt : t = false := by cases t; rfl; have := HIFF.out.1 rfl; omega
    subst htt
    go_enter Tryd.func22, Tryd.ntmps22
    go_wp2
    go_ret
    exact ⟨rfl, hA⟩

set_option maxRecDepth 100000 in
set_option maxHeartbeats 1600000 in
theorem eql_cell (a b : IC) (w : World) : (Op.equalIn 10000 30 (.agg #[.int .i64 a.1, .int .i64 a.2]) (.agg #[.int .i64 b.1, .int .i64 b.2])).run Tryd.prog w = .ok (decide (a = b)) w := by
  have u1 := Tryd.underlying30
  have u3 := Tryd.underlying3
  obtain ⟨r, hr⟩ : ∃ r, decide (a = b) = r := ⟨_, rfl⟩
  rw [hr]
  by_cases h1 : a.1 = b.1
  · have n1 : (a.1 == b.1) = true := by rw [beq_iff_eq]; exact h1
    by_cases h2 : a.2 = b.2
    · have n2 : (a.2 == b.2) = true := by rw [beq_iff_eq]; exact h2
      have e : r = true := by rw [← hr]; exact decide_eq_true (Prod.ext h1 h2)
      subst e
      clear h1 h2 hr
      go_simp
    · have n2 : (a.2 == b.2) = false := by rw [beq_eq_false_iff_ne]; exact h2
      have e : r = false := by rw [← hr]; exact decide_eq_false (fun q => h2 (by rw [q]))
      subst e
      clear h1 h2 hr
      go_simp
  · have n1 : (a.1 == b.1) = false := by rw [beq_eq_false_iff_ne]; exact h1
    have e : r = false := by rw [← hr]; exact decide_eq_false (fun q => h1 (by rw [q]))
    subst e
    clear h1 hr
    go_simp

set_option maxRecDepth 100000 in
set_option maxHeartbeats 4000000 in
theorem rfits8_yes (A B X Y U V : Int) (w : World) (hf : fitsB A B X Y U V = true) :
    Calls Tryd.prog 25 #[.agg #[.int .i64 A, .int .i64 B], .agg #[.int .i64 X, .int .i64 Y, .int .i64 U, .int .i64 V]] w fun e w' => e = .returned (.bool true) ∧ Below w.heap.size w w' := by
  obtain ⟨g1, g2, g3, g4, g5, g6, g7, g8⟩ := fitsB_iff.1 hf
  obtain ⟨r1, r2, r3, r4, r5, r6, r7, r8⟩ := rightB_iff.1 g1
  obtain ⟨m1, m2, m3, m4⟩ := mayB_iff.1 g2
  have k1 : (1 : Int) ≤ U := by omega
  have k2 : (1 : Int) ≤ V := by omega
  have k3 : X < A := by omega
  have k4 : Y < B := by omega
  have k5 : U ≤ A - X := by omega
  have k6 : V ≤ B - Y := by omega
  have hw1 : IntKind.i64.wrap (A - X) = A - X := IntWalk.i64_in _ (by omega)
  have hw2 : IntKind.i64.wrap (B - Y) = B - Y := IntWalk.i64_in _ (by omega)
  clear g1 g2 g3 g4 g7 g8 hf r1 r2 r3 r4 r5 r6 r7 r8 m1 m2 m3 m4
  go_enter Tryd.func25, Tryd.ntmps25
  go_wp2
  go_ret
  exact ⟨rfl, bl_al (bl_al (bl0 _) _) _⟩

set_option maxRecDepth 100000 in
set_option maxHeartbeats 4000000 in
theorem rstep8_any (X Y d : Int) (w : World) (hp : plainB X Y = true) (h0 : 0 ≤ d) (h4 : d < 4) :
    Calls Tryd.prog 28 #[.agg #[.int .i64 X, .int .i64 Y], .int .i64 d] w fun e w' => e = .returned (.agg #[.int .i64 (stepI (X, Y) d).1, .int .i64 (stepI (X, Y) d).2]) ∧ Below w.heap.size w w' := by
  obtain ⟨a1, a2, a3, a4⟩ := plainB_iff.1 hp
  obtain ⟨Z, hZ⟩ : ∃ Z, (stepI (X, Y) d).1 = Z := ⟨_, rfl⟩
  obtain ⟨W, hW⟩ : ∃ W, (stepI (X, Y) d).2 = W := ⟨_, rfl⟩
  rw [hZ, hW]
  obtain rfl | rfl | rfl | rfl : d = 0 ∨ d = 1 ∨ d = 2 ∨ d = 3 := by omega
  all_goals
    simp [stepI, dxI, dyI] at hZ hW
    subst hZ hW
    go_enter Tryd.func28, Tryd.ntmps28
    go_wp2
    refine bodyPost_ret (v := .agg #[.int .i64 _, .int .i64 _]) (by simp [results, Tryd.results28, go_sem] <;> omega) rfl ⟨rfl, ?_⟩
    first
    | exact bl_al (bl_al (bl0 _) _) _
    | exact bl_al (bl_st (bl_al (bl0 _) _) (by omega) _) _
    | exact bl_st (bl_st (bl_al (bl_al (bl0 _) _) _) (by omega) _) (by omega) _
    | exact bl_st (bl_st (bl_st (bl_al (bl_al (bl0 _) _) _) (by omega) _) (by omega) _) (by omega) _

/-- How far a cell is; none of one that is not in a box. -/
def atBx (A : Int) (b : BX) (ds : List Int) (c : IC) : Int := if inBx b c = true then atD ds (numN A c) else 18446744073709551615
set_option maxRecDepth 100000 in
set_option maxHeartbeats 4000000 in
theorem at8_any (A B : Int) (a a2 : Option Addr) (n cap cap2 : Nat) (ds : List Int) (X Y U V : Int) (c : IC) (w : World) (hf : fitsB A B X Y U V = true) (hn : (ds.length : Int) = A * B) (hru : RowU w a2 ds) (hc : wf64 c.1 ∧ wf64 c.2) :
    Calls Tryd.prog 27 #[.agg #[.int .i64 A, .int .i64 B, .slice a n cap], .agg #[.int .i64 X, .int .i64 Y, .int .i64 U, .int .i64 V], .slice a2 ds.length cap2, .agg #[.int .i64 c.1, .int .i64 c.2]] w fun e w' => e = .returned (.int .u64 (atBx A (X, Y, U, V) ds c)) ∧ Below w.heap.size w w' := by
  obtain ⟨g1, g2, g3, g4, g5, g6, g7, g8⟩ := fitsB_iff.1 hf
  have hA := bl0 w
  have hh := fun w => rhas8_any X Y U V c w g1 ⟨g5, g6⟩ hc
  cases hin : inBx (X, Y, U, V) c
  · have e : atBx A (X, Y, U, V) ds c = 18446744073709551615 := by unfold atBx; rw [if_neg (by rw [hin]; decide)]
    rw [e]
    rw [hin] at hh
    clear hin e
    go_enter Tryd.func27, Tryd.ntmps27
    go_wp2_with fail
    refine (hh _).mono ?_
    rintro e w1 ⟨rfl, hb⟩
    have hk : Below w.heap.size w w1 := by first | exact hb | exact bl_tr (bl_al (bl0 _) _) hb | exact bl_tr (bl_dr (bl_al (bl0 _) _)) hb | exact bl_tr (bl_al (bl_al (bl0 _) _) _) hb | exact bl_tr (bl_dr (bl_al (bl_al (bl0 _) _) _)) hb | exact bl_tr (bl_al (bl_al (bl_al (bl0 _) _) _) _) hb | exact bl_tr (bl_dr (bl_al (bl_al (bl_al (bl0 _) _) _) _)) hb | exact bl_tr (bl_al (bl_al (bl_al (bl_al (bl0 _) _) _) _) _) hb | exact bl_tr (bl_dr (bl_al (bl_al (bl_al (bl_al (bl0 _) _) _) _) _)) hb | exact bl_tr (bl_al (bl_al (bl_al (bl_al (bl_al (bl0 _) _) _) _) _) _) hb | exact bl_tr (bl_dr (bl_al (bl_al (bl_al (bl_al (bl_al (bl0 _) _) _) _) _) _)) hb | exact bl_tr (bl_al (bl_al (bl_al (bl_al (bl_al (bl_al (bl0 _) _) _) _) _) _) _) hb | exact bl_tr (bl_dr (bl_al (bl_al (bl_al (bl_al (bl_al (bl_al (bl0 _) _) _) _) _) _) _)) hb | exact bl_tr (bl_dr (bl0 _)) hb
    replace hA := bl_tr hA hk
    clear hb hk
    go_wp2
    go_ret
    exact ⟨rfl, hA⟩
  · have e : atBx A (X, Y, U, V) ds c = atD ds (numN A c) := by unfold atBx; rw [if_pos hin]
    rw [e]
    have hon := box_on (b := (X, Y, U, V)) hf hin
    obtain ⟨n1, n2⟩ := numN_int hon
    obtain ⟨p1, p2, p3, p4, p5, p6, p7, p8⟩ := inB_iff.1 hon
    obtain ⟨m1, m2⟩ := mul_bd p7 (by omega) p1 p2
    have hw1 : IntKind.i64.wrap (c.2 * A) = c.2 * A := IntWalk.i64_in _ (by omega)
    have hw2 : IntKind.i64.wrap (c.2 * A + c.1) = (numN A c : Int) := by rw [n1]; exact IntWalk.i64_in _ (by omega)
    have hil : numN A c < ds.length := by omega
    rw [hin] at hh
    generalize numN A c = i at *
    have d1 : ¬ ((i : Int) < 0) := by omega
    have d2 : decide ((ds.length : Int) ≤ (i : Int)) = false := decide_eq_false (by omega)
    have d3 : decide (ds.length ≤ i) = false := decide_eq_false (by omega)
    have hi0 : (0 : Int) ≤ (i : Int) := by omega
    have hi1 : (i : Int) < (ds.length : Int) := by omega
    clear hin e n1 n2 m1 m2 hon p1 p2 p3 p4 p5 p6 p7 p8 g1 g2 g3 g4 g5 g6 g7 g8 hf hn hc
    go_enter Tryd.func27, Tryd.ntmps27
    go_wp2_with fail
    refine (hh _).mono ?_
    rintro e w1 ⟨rfl, hb⟩
    have hk : Below w.heap.size w w1 := by first | exact hb | exact bl_tr (bl_al (bl0 _) _) hb | exact bl_tr (bl_dr (bl_al (bl0 _) _)) hb | exact bl_tr (bl_al (bl_al (bl0 _) _) _) hb | exact bl_tr (bl_dr (bl_al (bl_al (bl0 _) _) _)) hb | exact bl_tr (bl_al (bl_al (bl_al (bl0 _) _) _) _) hb | exact bl_tr (bl_dr (bl_al (bl_al (bl_al (bl0 _) _) _) _)) hb | exact bl_tr (bl_al (bl_al (bl_al (bl_al (bl0 _) _) _) _) _) hb | exact bl_tr (bl_dr (bl_al (bl_al (bl_al (bl_al (bl0 _) _) _) _) _)) hb | exact bl_tr (bl_al (bl_al (bl_al (bl_al (bl_al (bl0 _) _) _) _) _) _) hb | exact bl_tr (bl_dr (bl_al (bl_al (bl_al (bl_al (bl_al (bl0 _) _) _) _) _) _)) hb | exact bl_tr (bl_al (bl_al (bl_al (bl_al (bl_al (bl_al (bl0 _) _) _) _) _) _) _) hb | exact bl_tr (bl_dr (bl_al (bl_al (bl_al (bl_al (bl_al (bl_al (bl0 _) _) _) _) _) _) _)) hb | exact bl_tr (bl_dr (bl0 _)) hb
    replace hA := bl_tr hA hk
    clear hb hk
    obtain ⟨gd, gq, r, q⟩ := (hru.below hA).cell hil
    subst r
    clear hh hru
    go_wp2
    go_ret
    exact ⟨rfl, hA⟩

/-- The least so far, of the first k directions. -/
def wantK (A : Int) (b : BX) (ds : List Int) (c : IC) (z : Int) : Nat → Int
  | 0 => 18446744073709551615
  | k + 1 => if addC (atBx A b ds (stepI c k)) z < wantK A b ds c z k then addC (atBx A b ds (stepI c k)) z else wantK A b ds c z k
theorem wantK_ge {A : Int} {b : BX} {ds : List Int} {c : IC} {z d : Int} (hd : d ≤ 18446744073709551615) : ∀ {m : Nat}, (∀ k : Nat, k < m → d ≤ addC (atBx A b ds (stepI c k)) z) → d ≤ wantK A b ds c z m
  | 0, _ => hd
  | m + 1, h => by
    have h1 := wantK_ge hd (m := m) (fun k hk => h k (by omega))
    have h2 := h m (by omega)
    unfold wantK
    split <;> assumption
theorem wantK_le {A : Int} {b : BX} {ds : List Int} {c : IC} {z : Int} : ∀ {m k : Nat}, k < m → wantK A b ds c z m ≤ addC (atBx A b ds (stepI c k)) z ∧ wantK A b ds c z m ≤ 18446744073709551615
  | 0, k, h => by omega
  | m + 1, k, h => by
    have hinf : wantK A b ds c z m ≤ 18446744073709551615 := by
      cases m with
      | zero => exact Int.le_refl _
      | succ m => exact (wantK_le (A := A) (b := b) (ds := ds) (c := c) (z := z) (m := m + 1) (k := 0) (by omega)).2
    unfold wantK
    by_cases e : k = m
    · subst e
      split <;> constructor <;> omega
    · have h1 := (wantK_le (A := A) (b := b) (ds := ds) (c := c) (z := z) (m := m) (k := k) (by omega)).1
      split <;> constructor <;> omega
theorem wantK_in {A : Int} {b : BX} {ds : List Int} {c : IC} {z : Int} (hz : 0 ≤ z) (hds : AllU ds) : ∀ m : Nat, inU (wantK A b ds c z m)
  | 0 => inU_inf
  | m + 1 => by
    have h := wantK_in (A := A) (b := b) (c := c) hz hds m
    have ha : 0 ≤ addC (atBx A b ds (stepI c m)) z := by
      have : 0 ≤ atBx A b ds (stepI c m) := by
        unfold atBx
        split
        · unfold atD
          rw [List.getD_eq_getElem?_getD]
          cases e : ds[numN A (stepI c m)]? with
          | none => decide
          | some d => exact (hds d (List.mem_of_getElem? e)).1
        · decide
      unfold addC
      split <;> omega
    unfold wantK
    split
    · exact ⟨ha, by have := h.2; omega⟩
    · exact h
/-- What is told of one, by those beside it. -/
theorem near_eq {A B : Int} {zs ds : List Int} {b : BX} {s : Nat} {c : IC} (hn : (zs.length : Int) = A * B) (hz : AllH zs) (hf : fitsB A B b.1 b.2.1 b.2.2.1 b.2.2.2 = true) (h : Far (gphB A B b zs) s (atD ds)) (hc : onB A B c = true) (hin : inBx b c = true) (h0 : zs.getD (numN A c) 0 ≠ 0) (hs : numN A c ≠ s) :
    wantK A b ds c (zs.getD (numN A c) 0) 4 = atD ds (numN A c) := by
  have hcn := cellN_num hc
  have hcl := numN_at hc hn
  have hop : (gphB A B b zs).opn (numN A c) := gphB_opn.2 ⟨hcl, by rw [hcn]; exact hin, h0⟩
  have hk : (gphB A B b zs).k (numN A c) = zs.getD (numN A c) 0 := gphB_k (by rw [hcn]; exact hin)
  have hzb := getD_in hz (numN A c)
  have hbd := h.bd (numN A c)
  have hmem : ∀ k : Nat, k < 4 → onB A B (stepI c k) = true → numN A (stepI c k) ∈ nbL A B (numN A c) := fun k hk4 ho => mem_nbL.2 ⟨(k : Int), by omega, by omega, by rw [hcn]; exact ho, by rw [hcn]⟩
  have hge : ∀ k : Nat, k < 4 → atD ds (numN A c) ≤ addC (atBx A b ds (stepI c k)) (zs.getD (numN A c) 0) := by
    intro k hk4
    unfold atBx
    by_cases hi : inBx b (stepI c k) = true
    · rw [if_pos hi]
      have ho := box_on hf hi
      by_cases hopj : (gphB A B b zs).opn (numN A (stepI c k))
      · by_cases hfin : atD ds (numN A (stepI c k)) = 18446744073709551615
        · rw [hfin]; unfold addC; split <;> omega
        · have h1 := h.le _ _ hop hopj (hmem k hk4 ho) hfin
          rw [hk] at h1
          have h2 := h.bd (numN A (stepI c k))
          unfold addC
          split <;> omega
      · rw [h.wall _ hopj]; unfold addC; split <;> omega
    · rw [if_neg hi]; unfold addC; split <;> omega
  have h1 := wantK_ge (z := zs.getD (numN A c) 0) (h.le_inf (numN A c)) hge
  by_cases hfin : atD ds (numN A c) = 18446744073709551615
  · have h2 := (wantK_le (A := A) (b := b) (ds := ds) (c := c) (z := zs.getD (numN A c) 0) (m := 4) (k := 0) (by omega)).2
    omega
  · obtain ⟨j, hj, hoj, hfj, he⟩ := h.of _ hs hfin
    obtain ⟨d, d0, d3, ho, hjd⟩ := mem_nbL.1 hj
    rw [hcn] at ho hjd
    obtain ⟨k, rfl⟩ : ∃ k : Nat, d = k := ⟨d.toNat, by omega⟩
    have hin2 : inBx b (stepI c k) = true := by
      have := (gphB_opn.1 hoj).2.1
      rw [← hjd, cellN_num ho] at this
      exact this
    have h2 := (wantK_le (A := A) (b := b) (ds := ds) (c := c) (z := zs.getD (numN A c) 0) (m := 4) (k := k) (by omega)).1
    have h3 : addC (atBx A b ds (stepI c k)) (zs.getD (numN A c) 0) = atD ds (numN A c) := by
      unfold atBx
      rw [if_pos hin2, hjd, he, hk]
      have := h.bd j
      unfold addC
      rw [if_pos (by omega)]
    omega
end Go.Proofs.YtjkecdghlpeigaaDoor
