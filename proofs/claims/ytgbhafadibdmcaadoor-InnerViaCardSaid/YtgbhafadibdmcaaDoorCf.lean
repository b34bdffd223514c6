/- Least costs: the numbers of the cells beside one that are no walls, as an iterator. -/
import Derived.Test.YtgbhafadibdmcaaDoorCd
import Derived.Test.YtgbhafadibdmcaaDoorCe
namespace Go.Proofs.YtgbhafadibdmcaaDoor
open Go.RowKit Go.Shelf
attribute [local go_sem] Oper.semAt_some

def encI (j : Nat) : Array Value := #[.int .i64 (j : Int)]
/-- What the iterator holds: a field, and a number. -/
structure BesAt (W : World) (p : Nat) (A B : Int) (a : Option Addr) (n cap : Nat) (i : Nat) : Prop where
  c0 : W.cell? ⟨p, 0, none⟩ = some (.int .i64 A)
  c1 : W.cell? ⟨p, 1, none⟩ = some (.int .i64 B)
  c2 : W.cell? ⟨p, 2, none⟩ = some (.slice a n cap)
  c3 : W.cell? ⟨p + 1, 0, none⟩ = some (.int .i64 (i : Int))
theorem BesAt.below {W W' : World} {p : Nat} {A B : Int} {a : Option Addr} {n cap i : Nat} (h : BesAt W p A B a n cap i) (b : Below W.heap.size W W') : BesAt W' p A B a n cap i :=
  ⟨cell_later b h.c0, cell_later b h.c1, cell_later b h.c2, cell_later b h.c3⟩
theorem BesAt.kp {W W' : World} {p : Nat} {A B : Int} {a : Option Addr} {n cap i : Nat} (h : BesAt W p A B a n cap i) (b : KP p 2 W W') : BesAt W' p A B a n cap i :=
  ⟨b.cell (by omega) (by omega) h.c0, b.cell (by omega) (by omega) h.c1, b.cell (by omega) (by omega) h.c2, b.cell (by omega) (by omega) h.c3⟩

set_option maxHeartbeats 1000000 in
theorem beside_mk (A B : Int) (a : Option Addr) (n cap i : Nat) (w : World) :
    Calls Tryd.prog 76 #[.agg #[.int .i64 A, .int .i64 B, .slice a n cap], .int .i64 (i : Int)] w fun e w' => e = .returned (.func (.func 88) #[] #[.pointer (some ⟨w.heap.size, 0, none⟩), .pointer (some ⟨w.heap.size + 1, 0, none⟩)]) ∧
      BesAt w' w.heap.size A B a n cap i ∧ w'.heap.size = w.heap.size + 2 ∧ Below w.heap.size w w' := by
  go_enter Tryd.func76, Tryd.ntmps76
  go_wp2
  go_ret
  refine ⟨rfl, ⟨?_, ?_, ?_, ?_⟩, by simp, bl_al (bl_al (bl0 _) _) _⟩ <;> simp [go_sem]

/-- Those in the first k directions. -/
def nbK (A B : Int) (zs : List Int) (i k : Nat) : List Nat := (([(0 : Int), 1, 2, 3].take k).filterMap (nbD A B i)).filter (fun j => decide (zs.getD j 0 ≠ 0))
theorem nbK_all (A B : Int) (zs : List Int) (i : Nat) : nbK A B zs i 4 = nbO A B zs i := rfl
theorem dirs_take (k : Nat) (h : k < 4) : [(0 : Int), 1, 2, 3].take (k + 1) = [(0 : Int), 1, 2, 3].take k ++ [(k : Int)] := by
  have : k = 0 ∨ k = 1 ∨ k = 2 ∨ k = 3 := by omega
  rcases this with rfl | rfl | rfl | rfl <;> rfl
theorem nbK_none {A B : Int} {zs : List Int} {i k : Nat} (h : k < 4) (ho : onB A B (stepI (cellN A i) k) = false) : nbK A B zs i (k + 1) = nbK A B zs i k := by
  unfold nbK
  rw [dirs_take k h, List.filterMap_append]
  simp [nbD, ho]
theorem nbK_wall {A B : Int} {zs : List Int} {i k : Nat} (h : k < 4) (ho : onB A B (stepI (cellN A i) k) = true) (hz : zs.getD (numN A (stepI (cellN A i) k)) 0 = 0) : nbK A B zs i (k + 1) = nbK A B zs i k := by
  unfold nbK
  rw [dirs_take k h, List.filterMap_append, List.filter_append]
  rw [List.getD_eq_getElem?_getD] at hz
  simp [nbD, ho, hz]
theorem nbK_one {A B : Int} {zs : List Int} {i k : Nat} (h : k < 4) (ho : onB A B (stepI (cellN A i) k) = true) (hz : zs.getD (numN A (stepI (cellN A i) k)) 0 ≠ 0) : nbK A B zs i (k + 1) = nbK A B zs i k ++ [numN A (stepI (cellN A i) k)] := by
  unfold nbK
  rw [dirs_take k h, List.filterMap_append, List.filter_append]
  rw [List.getD_eq_getElem?_getD] at hz
  simp [nbD, ho, hz]
theorem nbK_prefix {A B : Int} {zs : List Int} {i k m : Nat} (h : k ≤ m) : nbK A B zs i k <+: nbK A B zs i m := by
  unfold nbK
  refine List.IsPrefix.filter _ (List.IsPrefix.filterMap _ ?_)
  exact List.take_prefix_take_left h

theorem at_cell (A B : Int) (i : Nat) (w : World) (hm : mayB A B = true) (hi : (i : Int) < A * B) :
    Calls Tryd.prog 59 #[.agg #[.int .i64 A, .int .i64 B], .int .i64 (i : Int)] w fun e w' => e = .returned (.tuple #[.agg #[.int .i64 (cellN A i).1, .int .i64 (cellN A i).2], .int .i64 0]) ∧ Below w.heap.size w w' :=
  at_yes A B i w (by obtain ⟨h1, h2, h3, h4⟩ := mayB_iff.1 hm; exact atB_iff.2 ⟨h1, h2, h3, h4, by omega, by omega⟩)
theorem numN_at {A B : Int} {zs : List Int} {c : IC} (hi : onB A B c = true) (hn : (zs.length : Int) = A * B) : numN A c < zs.length := by
  obtain ⟨h1, h2⟩ := numN_int hi
  omega
theorem getD_get {zs : List Int} {i : Nat} (h : i < zs.length) : zs[i] = zs.getD i 0 := by
  rw [List.getD_eq_getElem?_getD, List.getElem?_eq_getElem h]; rfl
set_option maxRecDepth 100000 in
set_option maxHeartbeats 2000000 in
theorem beside1_in (l p : Nat) (A B : Int) (a : Option Addr) (cap : Nat) (zs : List Int) (i : Nat) (hm : mayB A B = true) (hn : (zs.length : Int) = A * B) (hi : i < zs.length) (J Jx : Nat → List Nat → World → Prop) (W : World) (hJ : ∀ C, AbP p 2 (J C)) (hJR : ∀ C pre W1, J C pre W1 → RowH W1 a zs ∧ Stp W1) (hJxR : ∀ C pre W1, Jx C pre W1 → RowH W1 a zs ∧ Stp W1)
    (hY : ∀ C pre x W1, J C pre W1 → pre ++ [x] <+: nbO A B zs i → YieldAt Fence.wide 0 Tryd.prog l (encI x) W1 fun e W' =>
      (e = .returned (.bool true) ∧ J C (pre ++ [x]) W' ∧ KP p 2 W1 W' ∧ KP C 1 W1 W') ∨ (e = .returned (.bool false) ∧ Jx C (pre ++ [x]) W' ∧ KP p 2 W1 W' ∧ KP C 1 W1 W'))
    (hs : BesAt W p A B a zs.length cap i) (h0 : ∀ W' C, Below W.heap.size W W' → W.heap.size ≤ C → C < W'.heap.size → J C [] W') :
    CallsIn Fence.wide 10 Tryd.prog 88 #[.func (.yield l) #[] #[], .pointer (some ⟨p, 0, none⟩), .pointer (some ⟨p + 1, 0, none⟩)] W fun e W' => (∃ v, e = .returned v) ∧
      ((∃ C, J C (nbO A B zs i) W') ∨ ∃ C q, q <+: nbO A B zs i ∧ Jx C q W') := by
  have hon : onB A B (cellN A i) = true := cellN_on hm (by omega)
  have hcall := fun w => at_cell A B i w hm (by omega)
  have hnb : ∀ k : Nat, k < 4 → (onB A B (stepI (cellN A i) k) = true → zs.getD (numN A (stepI (cellN A i) k)) 0 ≠ 0 → nbK A B zs i (k + 1) = nbK A B zs i k ++ [numN A (stepI (cellN A i) k)]) ∧ ((onB A B (stepI (cellN A i) k) = true → zs.getD (numN A (stepI (cellN A i) k)) 0 = 0) → nbK A B zs i (k + 1) = nbK A B zs i k) := fun k hk => by
    refine ⟨nbK_one hk, fun h => ?_⟩
    cases ho : onB A B (stepI (cellN A i) k)
    · exact nbK_none hk ho
    · exact nbK_wall hk ho (h ho)
  have HNB := Lib.hid hnb
  clear hnb
  generalize cellN A i = c at *
  refine callsIn_of_wp Tryd.func88 rfl trivial ?_ rfl
  simp only [Tryd.ntmps88, List.size_toArray, List.length_cons, List.length_nil, Nat.reduceAdd, Nat.reduceSub, Array.replicate_succ, Array.replicate_zero, List.push_toArray, List.append_toArray, List.nil_append, List.cons_append]
  obtain ⟨s0, s1, s2, s3⟩ := hs
  gi_wp2_with fail
  refine ⟨trivial, (callsIn_wide.2 (hcall _)).mono ?_⟩
  rintro e W1 ⟨rfl, hb1⟩
  have hs1 : BesAt W1 p A B a zs.length cap i := BesAt.below ⟨s0, s1, s2, s3⟩ hb1
  clear s0 s1 s2 s3 hcall
  gi_wp2_with fail
  gi_loopw [6] (fun d wr => ∃ k : Nat, k ≤ 4 ∧ d = .int .i64 k ∧ J W1.heap.size (nbK A B zs i k) wr ∧ BesAt wr p A B a zs.length cap i ∧ wr.cell? ⟨W1.heap.size, 0, none⟩ = some (.int .i64 c.1) ∧ wr.cell? ⟨W1.heap.size, 1, none⟩ = some (.int .i64 c.2)) (fun d _ => 5 - (intOf d).toNat)
  case atStart =>
    have hbb := bl_al hb1 (.cells #[.int .i64 c.1, .int .i64 c.2] 30)
    refine ⟨0, by omega, rfl, h0 _ _ hbb hb1.size (by simp), hs1.below (bl_al (bl0 _) _), ?_, ?_⟩ <;> simp [go_sem]
  case round =>
    obtain ⟨k, hk, rfl, hJr, hs, y0, y1⟩ := hrel
    by_cases hk4 : k = 4
    · subst hk4
      rw [nbK_all] at hJr
      gi_wp2_with fail
      go_end0
      exact ⟨⟨_, rfl⟩, .inl ⟨_, hJr⟩⟩
    · have hlt : k < 4 := by omega
      have hlt2 : ((k : Int) ≤ 3) := by omega
      obtain ⟨hN1, hN2⟩ := HNB.out k hlt
      obtain ⟨hrow, hstp⟩ := hJR _ _ _ hJr
      have hstep := step_any A B c (k : Int) wr hstp
      have hx : stpX A B c k = if onB A B (stepI c k) = true then 0 else 10 := by
        unfold stpX
        rw [if_pos ⟨by omega, by omega⟩, hon, Bool.true_and]
      have hv : stpX A B c k = 0 → stpV A B c k = stepI c k := fun h => by unfold stpV; rw [if_pos h]
      obtain ⟨s0, s1, s2, s3⟩ := hs
      generalize stepI c (k : Int) = c2 at *
      cases ho : onB A B c2
      · rw [if_neg (by rw [ho]; decide)] at hx
        have hN := Lib.hid (hN2 (fun h => by rw [ho] at h; cases h))
        rw [hx] at hstep
        generalize stpV A B c k = v2 at *
        clear hN1 hN2 hx hv ho
        gi_wp2_with fail
        refine ⟨trivial, (callsIn_wide.2 hstep).mono ?_⟩
        rintro e W2 ⟨rfl, hb2⟩
        have hbb := bl_al hb2 (.cells #[.int .i64 v2.1, .int .i64 v2.2] 30)
        gi_wp2
        go_roundw
        case rel => exact ⟨k + 1, by omega, by go_num, by rw [hN.out]; exact hJ _ _ _ _ none hJr (grown_of_below hbb) (fun r e => by cases e), BesAt.below ⟨s0, s1, s2, s3⟩ hbb, cell_later hbb y0, cell_later hbb y1⟩
        case measure => simp [intOf]; omega
      · rw [if_pos ho] at hx
        have hv2 := hv hx
        rw [hx, hv2] at hstep
        have hnum := fun w => number_any A B a zs.length cap c2 w ho
        have hjl := numN_at ho hn
        generalize numN A c2 = j at *
        have hz := getD_get hjl
        obtain ⟨gb, go, rfl, q⟩ := hrow.cell hjl
        have hj0 : (0 : Int) ≤ (j : Int) := by omega
        have hj1 : (j : Int) < (zs.length : Int) := by omega
        rw [hz] at q
        by_cases h0z : zs.getD j 0 = 0
        · have hN := Lib.hid (hN2 (fun _ => h0z))
          rw [h0z] at q
          clear hN1 hN2 hx hv hv2 ho hz h0z
          gi_wp2_with fail
          refine ⟨trivial, (callsIn_wide.2 hstep).mono ?_⟩
          rintro e W2 ⟨rfl, hb2⟩
          have hbb := bl_al hb2 (.cells #[.int .i64 c2.1, .int .i64 c2.2] 30)
          replace s0 := cell_later hb2 s0; replace s1 := cell_later hb2 s1; replace s2 := cell_later hb2 s2
          have zs0 := blk_lt s0
          gi_wp2_with fail
          refine ⟨trivial, (callsIn_wide.2 (hnum _)).mono ?_⟩
          rintro e W3 ⟨rfl, hb3⟩
          have hb4 := bl_tr hbb hb3
          replace s0 := cell_later (bl_tr (bl_al (bl0 _) _) hb3) s0; replace s1 := cell_later (bl_tr (bl_al (bl0 _) _) hb3) s1; replace s2 := cell_later (bl_tr (bl_al (bl0 _) _) hb3) s2
          replace s3 := cell_later hb4 s3; replace y0 := cell_later hb4 y0; replace y1 := cell_later hb4 y1; replace q := cell_later hb4 q
          gi_wp2_with fail
          refine ⟨(fun f h => by cases h), ?_⟩
          gi_wp2_with fail
          go_roundw
          case rel => exact ⟨k + 1, by omega, by go_num, by rw [hN.out]; exact hJ _ _ _ _ none hJr (grown_of_below hb4) (fun r e => by cases e), ⟨s0, s1, s2, s3⟩, y0, y1⟩
          case measure => simp [intOf]; omega
        · have hN := Lib.hid (hN1 ho h0z)
          have hnz : (zs.getD j 0 != 0) = true := by rw [bne_iff_ne]; exact h0z
          generalize zs.getD j 0 = z at *
          have hpre : nbK A B zs i k ++ [j] <+: nbO A B zs i := by rw [← hN.out, ← nbK_all]; exact nbK_prefix (by omega)
          clear hN1 hN2 hx hv hv2 ho hz h0z
          gi_wp2_with fail
          refine ⟨trivial, (callsIn_wide.2 hstep).mono ?_⟩
          rintro e W2 ⟨rfl, hb2⟩
          have hbb := bl_al hb2 (.cells #[.int .i64 c2.1, .int .i64 c2.2] 30)
          replace s0 := cell_later hb2 s0; replace s1 := cell_later hb2 s1; replace s2 := cell_later hb2 s2
          have zs0 := blk_lt s0
          gi_wp2_with fail
          refine ⟨trivial, (callsIn_wide.2 (hnum _)).mono ?_⟩
          rintro e W3 ⟨rfl, hb3⟩
          have hb4 := bl_tr hbb hb3
          replace s0 := cell_later (bl_tr (bl_al (bl0 _) _) hb3) s0; replace s1 := cell_later (bl_tr (bl_al (bl0 _) _) hb3) s1; replace s2 := cell_later (bl_tr (bl_al (bl0 _) _) hb3) s2
          replace s3 := cell_later hb4 s3; replace y0 := cell_later hb4 y0; replace y1 := cell_later hb4 y1; replace q := cell_later hb4 q
          have hJ4 := hJ _ _ _ _ none hJr (grown_of_below hb4) (fun r e => by cases e)
          obtain ⟨fn, tmps, assign, body, hy, hR⟩ := yieldAt_wide 9 (hY _ _ _ W3 hJ4 hpre)
          simp only [encI] at hy
          gi_wp2_with fail
          refine hR.mono ?_
          rintro e W4 (⟨rfl, hJ5, hkp, hkc⟩ | ⟨rfl, hJx, _, _⟩)
          · have hs5 : BesAt W4 p A B (some ⟨gb, go, none⟩) zs.length cap i := BesAt.kp ⟨s0, s1, s2, s3⟩ hkp
            replace y0 := hkc.cell (Nat.le_refl _) (by omega) y0
            replace y1 := hkc.cell (Nat.le_refl _) (by omega) y1
            clear hJ4 hy hR
            gi_wp2_with fail
            go_roundw
            case rel => exact ⟨k + 1, by omega, by go_num, by rw [hN.out]; exact hJ5, hs5, y0, y1⟩
            case measure => simp [intOf]; omega
          · clear hJ4 hy hR
            gi_wp2_with fail
            refine bodyPost_ret (results_none rfl _ _ _) rfl ?_
            exact ⟨⟨_, rfl⟩, .inr ⟨_, _, hpre, hJx⟩⟩
theorem iter_beside (p : Nat) (A B : Int) (a : Option Addr) (cap : Nat) (zs : List Int) (i : Nat) (hm : mayB A B = true) (hn : (zs.length : Int) = A * B) (hi : i < zs.length) (w : World) (hs : BesAt w p A B a zs.length cap i) :
    IterC p 2 88 #[.pointer (some ⟨p, 0, none⟩), .pointer (some ⟨p + 1, 0, none⟩)] encI (nbO A B zs i) (fun W => RowH W a zs ∧ Stp W) w :=
  fun l J Jx W hW hJ hJR hJxR hY h0 => beside1_in l p A B a cap zs i hm hn hi J Jx W hJ hJR hJxR hY (hs.below hW) h0
end Go.Proofs.YtgbhafadibdmcaaDoor
