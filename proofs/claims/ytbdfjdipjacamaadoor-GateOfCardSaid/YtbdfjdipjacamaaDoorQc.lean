/- Gates: along a border: the middle of a run; goto. -/
import Derived.Test.YtbdfjdipjacamaaDoorQb
import Derived.Test.YtbdfjdipjacamaaDoorOh
import Derived.Deep.RegionHeld3
import Derived.WalkMore
import Derived.Scope
namespace Go
/-- As Q; by a goto to the first of two labels, or to the second one: what is said of it, at a lesser measure. -/
def jumpsTwo (J0 J1 : Nat → Act → World → Prop) (n : Nat) (Q : Exit → Act → World → Prop) : Exit → Act → World → Prop
  | .goto l, a, w => (l = 0 ∧ ∃ m, m < n ∧ J0 m a w) ∨ (l = 1 ∧ ∃ m, m < n ∧ J1 m a w)
  | e, a, w => Q e a w
section
variable {P : Program} {a : Act} {w : World} {Q : Exit → Act → World → Prop}
theorem jumpsTwo_ret {J0 J1 : Nat → Act → World → Prop} {n : Nat} : jumpsTwo J0 J1 n Q .ret a w = Q .ret a w := rfl
theorem jumpsTwo_0 {J0 J1 : Nat → Act → World → Prop} {n : Nat} (h : ∃ m, m < n ∧ J0 m a w) : jumpsTwo J0 J1 n Q (.goto 0) a w := .inl ⟨rfl, h⟩
theorem jumpsTwo_1 {J0 J1 : Nat → Act → World → Prop} {n : Nat} (h : ∃ m, m < n ∧ J1 m a w) : jumpsTwo J0 J1 n Q (.goto 1) a w := .inr ⟨rfl, h⟩
/-- A scope in which the run jumps to two labels. -/
theorem wp_scope_two {c r0 r1 : Code} (J0 J1 : Nat → Act → World → Prop) (n : Nat) (h0 : findLabel c 0 = some (Code.skip.seq r0)) (h1 : findLabel c 1 = some (Code.skip.seq r1))
    (hpass0 : ∀ m a w, J0 m a w → r0.wp P (jumpsTwo J0 J1 m Q) a w)
    (hpass1 : ∀ m a w, J1 m a w → r1.wp P (jumpsTwo J0 J1 m Q) a w)
    (hfirst : (∀ m a w, J0 m a w → r0.wp P (jumpsTwo J0 J1 m Q) a w) → c.wp P (jumpsTwo J0 J1 n Q) a w) : (Code.scope c).wp P Q a w := by
  have first := hfirst hpass0
  have pass0 : ∀ m a w, J0 m a w → (Code.skip.seq r0).wp P (jumpsTwo J0 J1 m Q) a w := fun m a w h => wp_seq (wp_skip (hpass0 m a w h))
  have pass1 : ∀ m a w, J1 m a w → (Code.skip.seq r1).wp P (jumpsTwo J0 J1 m Q) a w := fun m a w h => wp_seq (wp_skip (hpass1 m a w h))
  intro b k cs
  have g0 : gotoIn 0 (.inScope c :: k) = some (.code (Code.skip.seq r0) :: .inScope c :: k) := by simp [gotoIn, h0]
  have g1 : gotoIn 1 (.inScope c :: k) = some (.code (Code.skip.seq r1) :: .inScope c :: k) := by simp [gotoIn, h1]
  have key : ∀ n a w, (J0 n a w → ∃ e a' w', Q e a' w' ∧ Arrives P (lone (b.at a (.code (Code.skip.seq r0) :: .inScope c :: k)) cs w) b k cs e a' w') ∧ (J1 n a w → ∃ e a' w', Q e a' w' ∧ Arrives P (lone (b.at a (.code (Code.skip.seq r1) :: .inScope c :: k)) cs w) b k cs e a' w') := by
    intro n
    induction n using Nat.strongRecOn with
    | _ n ih =>
      intro a w
      have fin : ∀ (r : Code), r.wp P (jumpsTwo J0 J1 n Q) a w → ∃ e a' w', Q e a' w' ∧ Arrives P (lone (b.at a (.code r :: .inScope c :: k)) cs w) b k cs e a' w' := by
        intro r hr
        obtain ⟨e, a₁, w₁, hq, harr⟩ := hr b (.inScope c :: k) cs
        cases e with
        | normal => exact ⟨.normal, a₁, w₁, hq, Steps.trans harr (.one step_inScope)⟩
        | exit id => exact ⟨.exit id, a₁, w₁, hq, fun k' hk => harr k' (by simp [exitTo, hk])⟩
        | goto l' =>
          rcases hq with ⟨rfl, m, hlt, hJ⟩ | ⟨rfl, m, hlt, hJ⟩
          · obtain ⟨e₂, a₂, w₂, hq₂, harr₂⟩ := (ih m hlt a₁ w₁).1 hJ
            exact ⟨e₂, a₂, w₂, hq₂, .of_steps (harr _ g0) harr₂⟩
          · obtain ⟨e₂, a₂, w₂, hq₂, harr₂⟩ := (ih m hlt a₁ w₁).2 hJ
            exact ⟨e₂, a₂, w₂, hq₂, .of_steps (harr _ g1) harr₂⟩
        | ret => exact ⟨_, a₁, w₁, hq, harr⟩
        | panic ch => exact ⟨_, a₁, w₁, hq, harr⟩
        | outgrown => exact ⟨_, a₁, w₁, hq, harr⟩
      exact ⟨fun hJ => fin _ (pass0 n a w hJ), fun hJ => fin _ (pass1 n a w hJ)⟩
  obtain ⟨e, a₁, w₁, hq, harr⟩ := first b (.inScope c :: k) cs
  cases e with
  | normal => exact ⟨.normal, a₁, w₁, hq, .head step_scope (Steps.trans harr (.one step_inScope))⟩
  | exit id => exact ⟨.exit id, a₁, w₁, hq, fun k' hk => .head step_scope (harr k' (by simp [exitTo, hk]))⟩
  | goto l' =>
    rcases hq with ⟨rfl, m, _, hJ⟩ | ⟨rfl, m, _, hJ⟩
    · obtain ⟨e₂, a₂, w₂, hq₂, harr₂⟩ := (key m a₁ w₁).1 hJ
      exact ⟨e₂, a₂, w₂, hq₂, .of_steps (.head step_scope (harr _ g0)) harr₂⟩
    · obtain ⟨e₂, a₂, w₂, hq₂, harr₂⟩ := (key m a₁ w₁).2 hJ
      exact ⟨e₂, a₂, w₂, hq₂, .of_steps (.head step_scope (harr _ g1)) harr₂⟩
  | ret => exact ⟨_, a₁, w₁, hq, .of_steps (.one step_scope) harr⟩
  | panic ch => exact ⟨_, a₁, w₁, hq, .of_steps (.one step_scope) harr⟩
  | outgrown => exact ⟨_, a₁, w₁, hq, .of_steps (.one step_scope) harr⟩
end
end Go
namespace Go.Proofs.YtbdfjdipjacamaaDoor
open Go.RowKit

def RunA (o : Nat → Bool) (f k : Nat) : Prop := ∀ i, f ≤ i → i < k → o i = true
theorem Tryd.infoG : (Tryd.prog.info? 108).map (fun i => (i.zero, i.size, i.bytes)) = some (some (.agg #[.int .i64 0, .int .i64 0, .int .i64 0, .int .i64 0]), 4, 32) := by kernel_rfl
theorem rowG_of_own {w : World} {base : Nat} {a : Option Addr} {cap : Nat} {zs : List (IC × IC)} (h : w.ownsRow base 108 4 (.slice a zs.length cap) zs.length (flatPP zs)) : RowPP w a zs := by
  have hown := h
  rcases h.2 with ⟨e, h0⟩ | ⟨g, cap, cur, e, hb, hg, _⟩
  · exact .inl (List.eq_nil_of_length_eq_zero h0)
  · cases e
    refine .inr ⟨g, 0, rfl, fun i z hz => ?_⟩
    obtain ⟨⟨e0, e1⟩, e2, e3⟩ := flatPP_at zs i z hz
    have a0 := hown.cells (g := g) rfl _ _ e0
    have a1 := hown.cells (g := g) rfl _ _ e1
    have a2 := hown.cells (g := g) rfl _ _ e2
    have a3 := hown.cells (g := g) rfl _ _ e3
    rw [addr_add, Nat.zero_add] at a0 a1 a2 a3
    simp only [Nat.zero_add]
    exact ⟨⟨a0, a1⟩, a2, a3⟩
def GatR (L : List (IC × IC)) (w : World) (e : Ending) (w' : World) : Prop := ∃ a cap, e = .returned (.slice a L.length cap) ∧ L.length ≤ cap ∧ RowPP w' a L ∧ Below w.heap.size w w'

set_option maxRecDepth 100000 in
set_option maxHeartbeats 2000000 in
theorem middle_any (b o n cap q : Nat) (z : IC × IC) (w : World) (hn : 0 < n) (hn2 : n ≤ 1048576) (hq : q = (n - 1) / 2)
    (hz : (w.cell? ⟨b, o + q * 4, none⟩ = some (.int .i64 z.1.1) ∧ w.cell? ⟨b, o + q * 4 + 1, none⟩ = some (.int .i64 z.1.2)) ∧ w.cell? ⟨b, o + q * 4 + 2, none⟩ = some (.int .i64 z.2.1) ∧ w.cell? ⟨b, o + q * 4 + 3, none⟩ = some (.int .i64 z.2.2)) :
    Calls Tryd.prog 105 #[.slice (some ⟨b, o, none⟩) n cap] w fun e w' => e = .returned (.agg #[.int .i64 z.1.1, .int .i64 z.1.2, .int .i64 z.2.1, .int .i64 z.2.2]) ∧ Below w.heap.size w w' := by
  obtain ⟨⟨q0, q1⟩, q2, q3⟩ := hz
  have zq := blk_lt q0
  have hd : Int.tdiv ((n : Int) - 1) 2 = (q : Int) := by
    rw [Int.tdiv_eq_ediv_of_nonneg (by omega)]
    omega
  have e1 : IntKind.i64.wrap ((n : Int) - 1) = (n : Int) - 1 := IntWalk.i64_in _ (by omega)
  have e2 : IntKind.i64.wrap (q : Int) = (q : Int) := IntWalk.i64_in _ (by omega)
  have hq0 : (0 : Int) ≤ (q : Int) := by omega
  have hq1 : (q : Int) < (n : Int) := by omega
  clear hq hn hn2
  go_enter Tryd.func105, Tryd.ntmps105
  go_wp2
  refine bodyPost_ret (v := .agg #[.int .i64 z.1.1, .int .i64 z.1.2, .int .i64 z.2.1, .int .i64 z.2.2]) (by simp [results, Tryd.results105, go_sem]) rfl ⟨rfl, bl_al (bl_al (bl0 _) _) _⟩


def AlJ0 (A B : Int) (a : Option Addr) (cap : Nat) (zs : List Int) (b : Option Addr) (cap2 : Nat) (l : List (IC × IC)) (w : World) : Nat → Act → World → Prop := (fun (m : Nat) (a1 : Act) (W : World) => ∃ k : Nat, ∃ v x7 x3 x8 x9 x10 x11 x12 x13 x14 x15 x16 x17 x18 x19 x20 x21 x22 x23 x24 x25 x26 x27 x28 x29 x30 x31 x32 x33 x34 x35 x36 x37 x38 x39 x40 x41 x42 x43 x44 : Value, a1 = { tmps := #[.agg #[.int .i64 A, .int .i64 B, .slice a zs.length cap], .slice b l.length cap2, .pointer (some ⟨w.heap.size, 0, none⟩), x3, .slice none 0 0, v, .int .i64 k, x7, x8, x9, x10, x11, x12, x13, x14, x15, x16, x17, x18, x19, x20, x21, x22, x23, x24, x25, x26, x27, x28, x29, x30, x31, x32, x33, x34, x35, x36, x37, x38, x39, x40, x41, x42, x43, x44], defers := [] } ∧ k ≤ l.length ∧ m = 2 * (l.length - k) ∧ (k = l.length ∨ opnAt (opnF A zs) l k = false ∨ aheadN (opnAt (opnF A zs) l) k = 0) ∧ W.ownsRow (w.heap.size + 1) 108 4 v (gatesTo (opnF A zs) l k).length (flatPP (gatesTo (opnF A zs) l k)) ∧ Below w.heap.size w W ∧ W.cell? ⟨w.heap.size, 0, none⟩ = some (.int .i64 A) ∧ W.cell? ⟨w.heap.size, 1, none⟩ = some (.int .i64 B) ∧ W.cell? ⟨w.heap.size, 2, none⟩ = some (.slice a zs.length cap))
def AlJ1 (A B : Int) (a : Option Addr) (cap : Nat) (zs : List Int) (b : Option Addr) (cap2 : Nat) (l : List (IC × IC)) (w : World) : Nat → Act → World → Prop := (fun (m : Nat) (a1 : Act) (W : World) => ∃ f k : Nat, ∃ v x3 x8 x9 x10 x11 x12 x13 x14 x15 x16 x17 x18 x19 x20 x21 x22 x23 x24 x25 x26 x27 x28 x29 x30 x31 x32 x33 x34 x35 x36 x37 x38 x39 x40 x41 x42 x43 x44 : Value, a1 = { tmps := #[.agg #[.int .i64 A, .int .i64 B, .slice a zs.length cap], .slice b l.length cap2, .pointer (some ⟨w.heap.size, 0, none⟩), x3, .slice none 0 0, v, .int .i64 k, .int .i64 f, x8, x9, x10, x11, x12, x13, x14, x15, x16, x17, x18, x19, x20, x21, x22, x23, x24, x25, x26, x27, x28, x29, x30, x31, x32, x33, x34, x35, x36, x37, x38, x39, x40, x41, x42, x43, x44], defers := [] } ∧ f < k ∧ k ≤ l.length ∧ m = 2 * (l.length - k) + 1 ∧ aheadN (opnAt (opnF A zs) l) f = 0 ∧ RunA (opnAt (opnF A zs) l) f k ∧ W.ownsRow (w.heap.size + 1) 108 4 v (gatesTo (opnF A zs) l f).length (flatPP (gatesTo (opnF A zs) l f)) ∧ Below w.heap.size w W ∧ W.cell? ⟨w.heap.size, 0, none⟩ = some (.int .i64 A) ∧ W.cell? ⟨w.heap.size, 1, none⟩ = some (.int .i64 B) ∧ W.cell? ⟨w.heap.size, 2, none⟩ = some (.slice a zs.length cap))


set_option maxRecDepth 100000 in
set_option maxHeartbeats 8000000 in
theorem along_any (A B : Int) (a : Option Addr) (cap : Nat) (zs : List Int) (b : Option Addr) (cap2 : Nat) (l : List (IC × IC)) (w : World) (hr : RowH w a zs) (hn : (zs.length : Int) = A * B) (hrow : RowPP w b l) (hc : l.length ≤ cap2) (hl : l.length ≤ 1048576) (hon : ∀ p ∈ l, onB A B p.1 = true ∧ onB A B p.2 = true) :
    Calls Tryd.prog 61 #[.agg #[.int .i64 A, .int .i64 B, .slice a zs.length cap], .slice b l.length cap2] w (GatR (gatesL (opnF A zs) l) w) := by
  obtain ⟨i0, hi, hz0, hz1, hz2⟩ := info_parts Tryd.infoG
  have HR := Lib.hid hr
  have HROW := Lib.hid hrow
  have HOP := Lib.hid (fun (k : Nat) (hk : k < l.length) w hr => open_any A B a cap zs l[k] w hr (hon _ (List.getElem_mem hk)).1 (hon _ (List.getElem_mem hk)).2 hn)
  have HOA := Lib.hid (fun (k : Nat) (hk : k < l.length) => opnAt_lt (op := opnF A zs) hk)
  clear hr hrow hon hn
  go_enter Tryd.func61, Tryd.ntmps61
  go_wp2_with fail
  refine wp_scope_two (AlJ0 A B a cap zs b cap2 l w) (AlJ1 A B a cap zs b cap2 l w) (2 * l.length) rfl rfl ?pass0 ?pass1 ?first
  case first =>
    intro hp0
    go_wp2_with fail
    go_step3
    rename_i hK
    refine hK _ _ (hp0 _ _ _ ?_)
    exact ⟨0, _, _, _, _, _, _, _, _, _, _, _, _, _, _, _, _, _, _, _, _, _, _, _, _, _, _, _, _, _, _, _, _, _, _, _, _, _, _, _, _, rfl, Nat.zero_le _, rfl, .inr (.inr rfl), ⟨rfl, .inl ⟨rfl, rfl⟩⟩, bl_al (bl0 w) _, by simp [go_sem], by simp [go_sem], by simp [go_sem]⟩
  case pass0 =>
    rintro m a1 W ⟨k, v, x7, x3, x8, x9, x10, x11, x12, x13, x14, x15, x16, x17, x18, x19, x20, x21, x22, x23, x24, x25, x26, x27, x28, x29, x30, x31, x32, x33, x34, x35, x36, x37, x38, x39, x40, x41, x42, x43, x44, rfl, hk, rfl, hst, hown, hA, f0, f1, f2⟩
    have hk0 : (0 : Int) ≤ (k : Int) := by omega
    have zf := blk_lt f0
    by_cases hlt : k < l.length
    case neg =>
      obtain rfl : k = l.length := by omega
      have e1 : ((l.length : Int) == (l.length : Int)) = true := beq_self_eq_true _
      obtain ⟨va, vc, rfl, hcp⟩ := own_shape hown
      have hrw := rowG_of_own hown
      have HRR := Lib.hid (show ∀ e, e = Ending.returned (.slice va (gatesTo (opnF A zs) l l.length).length vc) → GatR (gatesL (opnF A zs) l) w e W from fun e he => ⟨va, vc, he, hcp, hrw, hA⟩)
      clear hown hA hrw hst
      go_wp2
      rw [jumpsTwo_ret]
      go_ret
      exact HRR.out _ rfl
    case pos =>
      have hlt2 : (k : Int) < (l.length : Int) := by omega
      obtain ⟨gb, go, rfl, ⟨q0, q1⟩, q2, q3⟩ := (HROW.out.below hA).cell hlt
      have HC := HOP.out k hlt
      have ho := HOA.out k hlt
      obtain ⟨p, hp⟩ : ∃ p, l[k] = p := ⟨_, rfl⟩
      rw [hp] at q0 q1 q2 q3 HC ho
      clear hp
      obtain ⟨t, ht⟩ : ∃ t, opnF A zs p = t := ⟨_, rfl⟩
      rw [ht] at HC ho
      clear ht
      replace HC := Lib.hid HC
      have zq := blk_lt q0
      have hrz := HR.out.below hA
      have HS := Lib.hid (show ∀ W9, Below W.heap.size W W9 → W9.cell? ⟨w.heap.size, 0, none⟩ = some (.int .i64 A) ∧ W9.cell? ⟨w.heap.size, 1, none⟩ = some (.int .i64 B) ∧ W9.cell? ⟨w.heap.size, 2, none⟩ = some (.slice a zs.length cap) ∧ (W9.cell? ⟨gb, go + k * 4, none⟩ = some (.int .i64 p.1.1) ∧ W9.cell? ⟨gb, go + k * 4 + 1, none⟩ = some (.int .i64 p.1.2)) ∧ W9.cell? ⟨gb, go + k * 4 + 2, none⟩ = some (.int .i64 p.2.1) ∧ W9.cell? ⟨gb, go + k * 4 + 3, none⟩ = some (.int .i64 p.2.2) from fun W9 h => ⟨cell_later h f0, cell_later h f1, cell_later h f2, ⟨cell_later h q0, cell_later h q1⟩, cell_later h q2, cell_later h q3⟩)
      have e1 : ((k : Int) == (l.length : Int)) = false := by rw [beq_eq_false_iff_ne]; omega
      have HOWN := Lib.hid hown
      have HST := Lib.hid hst
      clear q0 q1 q2 q3 zq hst hown
      go_upto_region 5 with fail
      have hk1 := bl0 W
      go_region_held3 (fun W9 => W9.cell? ⟨w.heap.size, 0, none⟩ = some (.int .i64 A) ∧ W9.cell? ⟨w.heap.size, 1, none⟩ = some (.int .i64 B) ∧ W9.cell? ⟨w.heap.size, 2, none⟩ = some (.slice a zs.length cap) ∧ (W9.cell? ⟨gb, go + k * 4, none⟩ = some (.int .i64 p.1.1) ∧ W9.cell? ⟨gb, go + k * 4 + 1, none⟩ = some (.int .i64 p.1.2)) ∧ W9.cell? ⟨gb, go + k * 4 + 2, none⟩ = some (.int .i64 p.2.1) ∧ W9.cell? ⟨gb, go + k * 4 + 3, none⟩ = some (.int .i64 p.2.2))
        (first | exact HS.out _ hk1 | exact HS.out _ (bl_dr hk1))
        ((go_at_call 104; (with_reducible refine (HC.out _ (hrz.below (bl_dr hk1))).mono ?_); rintro e wz ⟨rfl, hb⟩; replace hk1 := bl_tr (bl_dr hk1) hb; clear hb))
      cases t
      · clear hrz
        go_wp2
        go_step3
        have hg := gatesTo_no ho
        change jumpsTwo (AlJ0 A B a cap zs (some ⟨gb, go, none⟩) cap2 l w) (AlJ1 A B a cap zs (some ⟨gb, go, none⟩) cap2 l w) _ (bodyPost Tryd.prog Tryd.f61 (GatR (gatesL (opnF A zs) l) w)) (.goto 0) _ _
        refine jumpsTwo_0 (Q := bodyPost Tryd.prog Tryd.f61 (GatR (gatesL (opnF A zs) l) w)) ⟨2 * (l.length - (k + 1)), by omega, k + 1, _, _, _, _, _, _, _, _, _, _, _, _, _, _, _, _, _, _, _, _, _, _, _, _, _, _, _, _, _, _, _, _, _, _, _, _, _, _, _, _, rfl, by omega, rfl, .inr (.inr (by unfold aheadN; rw [if_neg (by rw [ho]; decide)])), ?_, bl_tr hA hk1, (HS.out _ hk1).1, (HS.out _ hk1).2.1, (HS.out _ hk1).2.2.1⟩
        rw [hg]
        exact own_later HOWN.out hk1
      · have hah : aheadN (opnAt (opnF A zs) l) k = 0 := by
          rcases HST.out with h | h | h
          · omega
          · rw [ho] at h; cases h
          · exact h
        have hdt : decide ((k : Int) < (l.length : Int)) = true := decide_eq_true hlt2
        have zf1 := blk_lt (HS.out _ hk1).1
        go_wp2_with fail
        go_step3
        go_upto_region 8 with fail
        have hk2 := bl0 wz
        go_region_held3 (fun W9 => W9.cell? ⟨w.heap.size, 0, none⟩ = some (.int .i64 A) ∧ W9.cell? ⟨w.heap.size, 1, none⟩ = some (.int .i64 B) ∧ W9.cell? ⟨w.heap.size, 2, none⟩ = some (.slice a zs.length cap) ∧ (W9.cell? ⟨gb, go + k * 4, none⟩ = some (.int .i64 p.1.1) ∧ W9.cell? ⟨gb, go + k * 4 + 1, none⟩ = some (.int .i64 p.1.2)) ∧ W9.cell? ⟨gb, go + k * 4 + 2, none⟩ = some (.int .i64 p.2.1) ∧ W9.cell? ⟨gb, go + k * 4 + 3, none⟩ = some (.int .i64 p.2.2))
          (first | exact HS.out _ (bl_tr hk1 hk2) | exact HS.out _ (bl_tr hk1 (bl_dr hk2)))
          ((go_at_call 104; (with_reducible refine (HC.out _ (hrz.below (bl_tr hk1 (bl_dr hk2)))).mono ?_); rintro e wy ⟨rfl, hb⟩; replace hk2 := bl_tr (bl_dr hk2) hb; clear hb))
        clear hrz
        go_wp2
        go_step3
        refine jumpsTwo_1 (Q := bodyPost Tryd.prog Tryd.f61 (GatR (gatesL (opnF A zs) l) w)) ⟨2 * (l.length - (k + 1)) + 1, by omega, k, k + 1, _, _, _, _, _, _, _, _, _, _, _, _, _, _, _, _, _, _, _, _, _, _, _, _, _, _, _, _, _, _, _, _, _, _, _, _, _, _, _, rfl, by omega, by omega, rfl, hah, fun i h1 h2 => by (obtain rfl : i = k := by omega); exact ho, ?_, bl_tr hA (bl_tr hk1 hk2), (HS.out _ (bl_tr hk1 hk2)).1, (HS.out _ (bl_tr hk1 hk2)).2.1, (HS.out _ (bl_tr hk1 hk2)).2.2.1⟩
        exact own_later HOWN.out (bl_tr hk1 hk2)
  case pass1 =>
    rintro m a1 W ⟨f, k, v, x3, x8, x9, x10, x11, x12, x13, x14, x15, x16, x17, x18, x19, x20, x21, x22, x23, x24, x25, x26, x27, x28, x29, x30, x31, x32, x33, x34, x35, x36, x37, x38, x39, x40, x41, x42, x43, x44, rfl, hf, hk, rfl, hah, hrun, hown, hA, f0, f1, f2⟩
    have hk0 : (0 : Int) ≤ (k : Int) := by omega
    have zf := blk_lt f0
    have hf0 : (0 : Int) ≤ (f : Int) := by omega
    have hfk : (f : Int) ≤ (k : Int) := by omega
    have hkc : (k : Int) ≤ (cap2 : Int) := by omega
    obtain ⟨va, vc, rfl, hcp⟩ := own_shape hown
    have HAW := Lib.hid hA
    have HOWN := Lib.hid hown
    have F0 := Lib.hid f0
    have F1 := Lib.hid f1
    have F2 := Lib.hid f2
    by_cases hlt : k < l.length
    case pos =>
      have hlt2 : (k : Int) < (l.length : Int) := by omega
      obtain ⟨gb, go, rfl, ⟨q0, q1⟩, q2, q3⟩ := (HROW.out.below hA).cell hlt
      have HC := HOP.out k hlt
      have ho := HOA.out k hlt
      obtain ⟨p, hp⟩ : ∃ p, l[k] = p := ⟨_, rfl⟩
      rw [hp] at q0 q1 q2 q3 HC ho
      clear hp
      obtain ⟨t, ht⟩ : ∃ t, opnF A zs p = t := ⟨_, rfl⟩
      rw [ht] at HC ho
      clear ht
      replace HC := Lib.hid HC
      have zq := blk_lt q0
      have hrz := HR.out.below hA
      have HS := Lib.hid (show ∀ W9, Below W.heap.size W W9 → W9.cell? ⟨w.heap.size, 0, none⟩ = some (.int .i64 A) ∧ W9.cell? ⟨w.heap.size, 1, none⟩ = some (.int .i64 B) ∧ W9.cell? ⟨w.heap.size, 2, none⟩ = some (.slice a zs.length cap) ∧ (W9.cell? ⟨gb, go + k * 4, none⟩ = some (.int .i64 p.1.1) ∧ W9.cell? ⟨gb, go + k * 4 + 1, none⟩ = some (.int .i64 p.1.2)) ∧ W9.cell? ⟨gb, go + k * 4 + 2, none⟩ = some (.int .i64 p.2.1) ∧ W9.cell? ⟨gb, go + k * 4 + 3, none⟩ = some (.int .i64 p.2.2) from fun W9 h => ⟨cell_later h f0, cell_later h f1, cell_later h f2, ⟨cell_later h q0, cell_later h q1⟩, cell_later h q2, cell_later h q3⟩)
      have hdt : decide ((k : Int) < (l.length : Int)) = true := decide_eq_true hlt2
      clear q0 q1 q2 q3 zq hown
      have hk1 := bl0 W
      go_upto_region 8 with fail
      have hk2 := bl0 W
      go_region_held3 (fun W9 => W9.cell? ⟨w.heap.size, 0, none⟩ = some (.int .i64 A) ∧ W9.cell? ⟨w.heap.size, 1, none⟩ = some (.int .i64 B) ∧ W9.cell? ⟨w.heap.size, 2, none⟩ = some (.slice a zs.length cap) ∧ (W9.cell? ⟨gb, go + k * 4, none⟩ = some (.int .i64 p.1.1) ∧ W9.cell? ⟨gb, go + k * 4 + 1, none⟩ = some (.int .i64 p.1.2)) ∧ W9.cell? ⟨gb, go + k * 4 + 2, none⟩ = some (.int .i64 p.2.1) ∧ W9.cell? ⟨gb, go + k * 4 + 3, none⟩ = some (.int .i64 p.2.2))
        (first | exact HS.out _ hk2 | exact HS.out _ (bl_dr hk2))
        ((go_at_call 104; (with_reducible refine (HC.out _ (hrz.below (bl_dr hk2))).mono ?_); rintro e wy ⟨rfl, hb⟩; replace hk2 := bl_tr (bl_dr hk2) hb; clear hb))
      cases t
      · have he : k = l.length ∨ opnAt (opnF A zs) l k = false := .inr ho
        clear hrz HC HS hk1
        obtain ⟨W3, rfl⟩ : ∃ W3, W3 = wy := ⟨_, rfl⟩
        have hmn : f + (k - f - 1) / 2 < l.length := by omega
        obtain ⟨gb2, go2, hh, ⟨q0, q1⟩, q2, q3⟩ := (HROW.out.below HAW.out).cell hmn
        cases hh
        have hgr := gatesTo_run hah hf hk hrun he
        obtain ⟨z, hz⟩ : ∃ z, l[f + (k - f - 1) / 2] = z := ⟨_, rfl⟩
        rw [hz] at q0 q1 q2 q3 hgr
        clear hz
        have hM := middle_any gb (go + f * 4) (k - f) (cap2 - f) ((k - f - 1) / 2) z W3 (by omega) (by omega) rfl (by rw [show go + f * 4 + (k - f - 1) / 2 * 4 = go + (f + (k - f - 1) / 2) * 4 by omega]; exact ⟨⟨cell_later hk2 q0, cell_later hk2 q1⟩, cell_later hk2 q2, cell_later hk2 q3⟩)
        have HM := Lib.hid hM
        have HHE := Lib.hid he
        clear hM q0 q1 q2 q3 hmn he hah hrun
        go_wp2_with fail
        refine HM.out.mono ?_
        rintro e w5 ⟨rfl, hb⟩
        replace hk2 := bl_tr hk2 hb
        have hown := own_later HOWN.out hk2
        have hA := bl_tr HAW.out hk2
        have f0 := cell_later hk2 F0.out
        have f1 := cell_later hk2 F1.out
        have f2 := cell_later hk2 F2.out
        have zf := blk_lt f0
        have HB := Lib.hid hA
        obtain ⟨G2, hG2⟩ : ∃ G2, gatesTo (opnF A zs) l k = G2 := ⟨_, rfl⟩
        have hle := gatesTo_le (opnF A zs) l f
        rw [hG2] at hgr
        generalize gatesTo (opnF A zs) l f = G at *
        clear hb hk2
        go_wp2_with (at_builtin; refine wpList_append_own _ rfl _ _ 54 rfl (w.heap.size + 1) 108 i0 (.agg #[.int .i64 0, .int .i64 0, .int .i64 0, .int .i64 0]) 4 32 Tryd.underlying54 hi hz0 hz1 hz2 rfl (by decide) _ _ _ rfl (hown.alloc _) ⟨w5.heap.size, 0, none⟩ 1 1 [.int .i64 z.1.1, .int .i64 z.1.2, .int .i64 z.2.1, .int .i64 z.2.2] rfl rfl ?da1 ?da2 ?da3 ?da4 ?da5 ?_)
        try case da1 => exact cell_four w5 (.int .i64 z.1.1) (.int .i64 z.1.2) (.int .i64 z.2.1) (.int .i64 z.2.2) 108
        case da2 => (first | exact ⟨rfl, rfl, rfl, rfl⟩ | (intro u' hu; simp at hu; rcases hu with rfl | rfl | rfl | rfl <;> rfl))
        case da3 => unfold maxLen; omega
        case da4 => omega
        case da5 => (have := hA.size; simp; omega)
        intro v' w6 hown' hgrow _
        have hl2 : Below w5.heap.size w5 (w5.alloc (.cells #[.int .i64 z.1.1, .int .i64 z.1.2, .int .i64 z.2.1, .int .i64 z.2.2] 108)) := bl_al (bl0 _) _
        have hB5 : Below w.heap.size w w6 := (bl_tr hA hl2).grown hgrow (by have := hA.size; simp; omega) (fun j hj => by have := (hown.lt j hj).1; omega)
        have hne : ∀ j, j < w.heap.size + 1 → some j ≠ Value.ownBlock (.slice va G.length vc) := fun j hj e => by have := (hown.lt _ e.symm).1; omega
        have f0' := hgrow.cell (cell_later hl2 f0) (hne w.heap.size (Nat.lt_succ_self _))
        have f1' := hgrow.cell (cell_later hl2 f1) (hne w.heap.size (Nat.lt_succ_self _))
        have f2' := hgrow.cell (cell_later hl2 f2) (hne w.heap.size (Nat.lt_succ_self _))
        have hlen : G.length + 1 = G2.length := by rw [hgr, List.length_append]; rfl
        rw [← flatPP_snoc, ← hgr, hlen] at hown'
        clear hgrow hown hl2 hne f0 f1 f2 hA hgr hlen hle zf
        have HO := Lib.hid hown'
        clear hown'
        go_wp2
        go_step3
        refine jumpsTwo_0 (Q := bodyPost Tryd.prog Tryd.f61 (GatR (gatesL (opnF A zs) l) w)) ⟨2 * (l.length - k), by omega, k, _, _, _, _, _, _, _, _, _, _, _, _, _, _, _, _, _, _, _, _, _, _, _, _, _, _, _, _, _, _, _, _, _, _, _, _, _, _, _, _, rfl, hk, rfl, HHE.out.elim .inl (fun h => .inr (.inl h)), ?_, hB5, f0', f1', f2'⟩
        rw [hG2]
        exact HO.out

      · have hrn : RunA (opnAt (opnF A zs) l) f (k + 1) := fun i h1 h2 => by
          by_cases h3 : i = k
          · rw [h3]; exact ho
          · exact hrun i h1 (by omega)
        clear hrz
        go_wp2
        go_step3
        refine jumpsTwo_1 (Q := bodyPost Tryd.prog Tryd.f61 (GatR (gatesL (opnF A zs) l) w)) ⟨2 * (l.length - (k + 1)) + 1, by omega, f, k + 1, _, _, _, _, _, _, _, _, _, _, _, _, _, _, _, _, _, _, _, _, _, _, _, _, _, _, _, _, _, _, _, _, _, _, _, _, _, _, _, rfl, by omega, by omega, rfl, hah, hrn, ?_, bl_tr hA hk2, (HS.out _ hk2).1, (HS.out _ hk2).2.1, (HS.out _ hk2).2.2.1⟩
        exact own_later HOWN.out hk2
    case neg =>
      have he : k = l.length ∨ opnAt (opnF A zs) l k = false := .inl (by omega)
      have hdt : decide ((k : Int) < (l.length : Int)) = false := decide_eq_false (by omega)
      obtain ⟨gb, go, rfl, hzu⟩ := (HROW.out.below hA).cell (show f < l.length by omega)
      clear hzu
      go_upto_region 8 with fail
      first | go_quiet (fail) | go_region_with (fail)
      obtain ⟨W3, hW3⟩ : ∃ W3, W.drewN nq = W3 := ⟨_, rfl⟩
      have hk2 : Below W.heap.size W W3 := by rw [← hW3]; exact bl_drn W nq
      rw [hW3]
      clear hW3 hown hA f0 f1 f2 zf
      have hmn : f + (k - f - 1) / 2 < l.length := by omega
      obtain ⟨gb2, go2, hh, ⟨q0, q1⟩, q2, q3⟩ := (HROW.out.below HAW.out).cell hmn
      cases hh
      have hgr := gatesTo_run hah hf hk hrun he
      obtain ⟨z, hz⟩ : ∃ z, l[f + (k - f - 1) / 2] = z := ⟨_, rfl⟩
      rw [hz] at q0 q1 q2 q3 hgr
      clear hz
      have hM := middle_any gb (go + f * 4) (k - f) (cap2 - f) ((k - f - 1) / 2) z W3 (by omega) (by omega) rfl (by rw [show go + f * 4 + (k - f - 1) / 2 * 4 = go + (f + (k - f - 1) / 2) * 4 by omega]; exact ⟨⟨cell_later hk2 q0, cell_later hk2 q1⟩, cell_later hk2 q2, cell_later hk2 q3⟩)
      have HM := Lib.hid hM
      have HHE := Lib.hid he
      clear hM q0 q1 q2 q3 hmn he hah hrun
      go_wp2_with fail
      refine HM.out.mono ?_
      rintro e w5 ⟨rfl, hb⟩
      replace hk2 := bl_tr hk2 hb
      have hown := own_later HOWN.out hk2
      have hA := bl_tr HAW.out hk2
      have f0 := cell_later hk2 F0.out
      have f1 := cell_later hk2 F1.out
      have f2 := cell_later hk2 F2.out
      have zf := blk_lt f0
      have HB := Lib.hid hA
      obtain ⟨G2, hG2⟩ : ∃ G2, gatesTo (opnF A zs) l k = G2 := ⟨_, rfl⟩
      have hle := gatesTo_le (opnF A zs) l f
      rw [hG2] at hgr
      generalize gatesTo (opnF A zs) l f = G at *
      clear hb hk2
      go_wp2_with (at_builtin; refine wpList_append_own _ rfl _ _ 54 rfl (w.heap.size + 1) 108 i0 (.agg #[.int .i64 0, .int .i64 0, .int .i64 0, .int .i64 0]) 4 32 Tryd.underlying54 hi hz0 hz1 hz2 rfl (by decide) _ _ _ rfl (hown.alloc _) ⟨w5.heap.size, 0, none⟩ 1 1 [.int .i64 z.1.1, .int .i64 z.1.2, .int .i64 z.2.1, .int .i64 z.2.2] rfl rfl ?db1 ?db2 ?db3 ?db4 ?db5 ?_)
      try case db1 => exact cell_four w5 (.int .i64 z.1.1) (.int .i64 z.1.2) (.int .i64 z.2.1) (.int .i64 z.2.2) 108
      case db2 => (first | exact ⟨rfl, rfl, rfl, rfl⟩ | (intro u' hu; simp at hu; rcases hu with rfl | rfl | rfl | rfl <;> rfl))
      case db3 => unfold maxLen; omega
      case db4 => omega
      case db5 => (have := hA.size; simp; omega)
      intro v' w6 hown' hgrow _
      have hl2 : Below w5.heap.size w5 (w5.alloc (.cells #[.int .i64 z.1.1, .int .i64 z.1.2, .int .i64 z.2.1, .int .i64 z.2.2] 108)) := bl_al (bl0 _) _
      have hB5 : Below w.heap.size w w6 := (bl_tr hA hl2).grown hgrow (by have := hA.size; simp; omega) (fun j hj => by have := (hown.lt j hj).1; omega)
      have hne : ∀ j, j < w.heap.size + 1 → some j ≠ Value.ownBlock (.slice va G.length vc) := fun j hj e => by have := (hown.lt _ e.symm).1; omega
      have f0' := hgrow.cell (cell_later hl2 f0) (hne w.heap.size (Nat.lt_succ_self _))
      have f1' := hgrow.cell (cell_later hl2 f1) (hne w.heap.size (Nat.lt_succ_self _))
      have f2' := hgrow.cell (cell_later hl2 f2) (hne w.heap.size (Nat.lt_succ_self _))
      have hlen : G.length + 1 = G2.length := by rw [hgr, List.length_append]; rfl
      rw [← flatPP_snoc, ← hgr, hlen] at hown'
      clear hgrow hown hl2 hne f0 f1 f2 hA hgr hlen hle zf
      have HO := Lib.hid hown'
      clear hown'
      go_wp2
      go_step3
      refine jumpsTwo_0 (Q := bodyPost Tryd.prog Tryd.f61 (GatR (gatesL (opnF A zs) l) w)) ⟨2 * (l.length - k), by omega, k, _, _, _, _, _, _, _, _, _, _, _, _, _, _, _, _, _, _, _, _, _, _, _, _, _, _, _, _, _, _, _, _, _, _, _, _, _, _, _, _, rfl, hk, rfl, HHE.out.elim .inl (fun h => .inr (.inl h)), ?_, hB5, f0', f1', f2'⟩
      rw [hG2]
      exact HO.out

end Go.Proofs.YtbdfjdipjacamaaDoor
