/- The document's answer for texts: Parse. -/
import Derived.Test.YthnpoeobieninaaDoorYj
import Derived.Test.YthnpoeobieninaaDoorVn
import Derived.WalkMore
namespace Go.Proofs.YthnpoeobieninaaDoor
open Go.RowKit

theorem Kept2.then {g h : Nat} {A B C : World} (x : Kept2 g h A B) (y : Below A.heap.size B C) : Kept2 g h A C :=
  ⟨x.1.trans (y.mono (Nat.zero_le _)), fun k h1 h2 h3 => (y.block k h1).trans (x.2 k h1 h2 h3)⟩
/-- A field in a block. -/
def FAt (w : World) (k : Nat) (a b c : Value) : Prop := w.heap[k]? = some (.cells #[a, b, c] 26 (0, 0))
section
variable {w : World} {k : Nat} {a b c : Value} (h : FAt w k a b c)
include h
theorem FAt.c0 : w.cell? ⟨k, 0, none⟩ = some a := by unfold FAt at h; simp [World.cell?, h]
theorem FAt.c1 : w.cell? ⟨k, 1, none⟩ = some b := by unfold FAt at h; simp [World.cell?, h]
theorem FAt.c2 : w.cell? ⟨k, 2, none⟩ = some c := by unfold FAt at h; simp [World.cell?, h]
theorem FAt.f0 : w.frozen? ⟨k, 0, none⟩ = false := by unfold FAt at h; simp [World.frozen?, h]
theorem FAt.f1 : w.frozen? ⟨k, 1, none⟩ = false := by unfold FAt at h; simp [World.frozen?, h]
theorem FAt.f2 : w.frozen? ⟨k, 2, none⟩ = false := by unfold FAt at h; simp [World.frozen?, h]
theorem FAt.lt : k < w.heap.size := blk_lt h.c0
theorem FAt.set0 (u : Value) : FAt (w.setCell ⟨k, 0, none⟩ u) k u b c := (heap_setCell_same w k 0 _ _ u h).trans (by simp)
theorem FAt.set1 (u : Value) : FAt (w.setCell ⟨k, 1, none⟩ u) k a u c := (heap_setCell_same w k 1 _ _ u h).trans (by simp)
theorem FAt.set2 (u : Value) : FAt (w.setCell ⟨k, 2, none⟩ u) k a b u := (heap_setCell_same w k 2 _ _ u h).trans (by simp)
theorem FAt.later {w' : World} {n : Nat} (hb : Below n w w') (hk : k < n) : FAt w' k a b c := (hb.block k hk).trans h
end

set_option maxHeartbeats 1600000 in
theorem rparse_long (l : List UInt8) (w : World) (h1 : 131072 < l.length) :
    Calls Tryd.prog 21 #[.string ⟨l.toArray⟩] w fun e w' => Below w.heap.size w w' ∧ e = .returned (.tuple #[.agg #[.int .i64 0, .int .i64 0, .slice none 0 0], .int .i64 0, .int .i64 12]) := by
  have g1 : (131072 : Int) < (l.length : Int) := by omega
  go_enter Tryd.func21, Tryd.ntmps21
  go_wp2
  refine bodyPost_ret (v := .tuple #[.agg #[.int .i64 0, .int .i64 0, .slice none 0 0], .int .i64 0, .int .i64 12]) (by simp [results, Tryd.results21, go_sem]) rfl ⟨?_, rfl⟩
  exact bl_al (bl_al (bl0 _) _) _
set_option maxHeartbeats 1600000 in
theorem rparse_none (w : World) :
    Calls Tryd.prog 21 #[.string ⟨#[]⟩] w fun e w' => Below w.heap.size w w' ∧ e = .returned (.tuple #[.agg #[.int .i64 0, .int .i64 0, .slice none 0 0], .int .i64 1, .int .i64 11]) := by
  go_enter Tryd.func21, Tryd.ntmps21
  go_wp2
  refine bodyPost_ret (v := .tuple #[.agg #[.int .i64 0, .int .i64 0, .slice none 0 0], .int .i64 1, .int .i64 11]) (by simp [results, Tryd.results21, go_sem]) rfl ⟨?_, rfl⟩
  exact bl_al (bl_al (bl0 _) _) _

set_option maxRecDepth 100000 in
set_option maxHeartbeats 4000000 in
theorem rparse_main (l : List UInt8) (w : World) (h1 : l.length ≤ 131072) (h2 : l ≠ []) (ps : List (List UInt8)) (p : List UInt8) (hcut : cutB 10 l = ps ++ [p]) :
    Calls Tryd.prog 21 #[.string ⟨l.toArray⟩] w fun e w' => Below w.heap.size w w' ∧ ∃ v, e = .returned (.tuple #[.agg #[.int .i64 (parF l).1.W, .int .i64 (parF l).1.H, v], .int .i64 (parF l).2, .int .i64 (parF l).1.e]) ∧
      w'.ownsRow w.heap.size 38 1 v (parF l).1.cs.length (cellsH (parF l).1.cs) := by
  obtain ⟨i0, hi, hz0, hz1, hz2⟩ := info_parts Tryd.infoH
  have g1 : (l.length : Int) ≤ 131072 := by omega
  have g2 : l.isEmpty = false := by cases l with
    | nil => exact absurd rfl h2
    | cons => rfl
  obtain ⟨O, hO⟩ : ∃ O : Obj, Obj.cells #[.int .i64 0, .int .i64 0, .slice none 0 0] 26 = O := ⟨_, rfl⟩
  obtain ⟨w0, hw0⟩ : ∃ w0, ((w.alloc O).alloc O).alloc O = w0 := ⟨_, rfl⟩
  have hz : w0.heap.size = w.heap.size + 3 := by rw [← hw0]; simp
  have hb0 : Below w.heap.size w w0 := by rw [← hw0]; exact bl_al (bl_al (bl_al (bl0 _) _) _) _
  have r0 : w0.heap[w.heap.size]? = some O := by rw [← hw0]; exact ((bl_al (bl_al (bl0 (w.alloc O)) O) O).block w.heap.size (by simp)).trans (heap_alloc_new w O)
  have n0 : w0.heap[w.heap.size + 1]? = some O := by rw [← hw0]; have h := heap_alloc_new (w.alloc O) O; rw [World.size_alloc] at h; exact ((bl_al (bl0 ((w.alloc O).alloc O)) O).block (w.heap.size + 1) (by simp)).trans h
  have f0 : w0.heap[w.heap.size + 2]? = some O := by rw [← hw0]; have h := heap_alloc_new ((w.alloc O).alloc O) O; rw [World.size_alloc, World.size_alloc] at h; exact h
  rw [← hO] at hw0 r0 n0 f0
  clear hO
  have HW := Lib.hid hw0
  clear hw0
  go_enter Tryd.func21, Tryd.ntmps21
  go_wp2_with fail
  rw [HW.out]
  refine (rcut_any l 10 w0 (by omega)).mono ?_
  rintro e w1 ⟨a, cap, rfl, hown, hb⟩
  rw [hcut] at hown
  have hLl : (ps ++ [p]).length = ps.length + 1 := by simp
  have hll : ps.length ≤ l.length := by have := cutB_len 10 l; rw [hcut, hLl] at this; omega
  rw [hcut]
  obtain ⟨g, rfl, hg⟩ : ∃ g, a = some ⟨g, 0, none⟩ ∧ w0.heap.size ≤ g := by
    rcases hown.2 with ⟨_, h⟩ | ⟨g, cap', cur, h, h', _⟩
    · omega
    · cases h; exact ⟨g, rfl, h'⟩
  have hcell := fun (j : Nat) (x : List UInt8) (hj : (ps ++ [p])[j]? = some x) => hown.cells (g := g) rfl j (.string ⟨x.toArray⟩) (by rw [cellsS, List.getElem?_map, hj]; rfl)
  simp only [addr_add, Nat.zero_add] at hcell
  have hgl : g < w1.heap.size := (hown.lt g rfl).2
  have R1 : FAt w1 w.heap.size (.int .i64 0) (.int .i64 0) (.slice none 0 0) := FAt.later r0 hb (by omega)
  have N1 : FAt w1 (w.heap.size + 1) (.int .i64 0) (.int .i64 0) (.slice none 0 0) := FAt.later n0 hb (by omega)
  have F1 : FAt w1 (w.heap.size + 2) (.int .i64 0) (.int .i64 0) (.slice none 0 0) := FAt.later f0 hb (by omega)
  have hB1 : Below w.heap.size w w1 := hb0.trans (hb.mono (by omega))
  have hs1 : w0.heap.size ≤ w1.heap.size := hb.size
  have HC := Lib.hid hcell
  have HCUT := Lib.hid hcut
  clear hcell hcut hown hb hb0 r0 n0 f0 HW
  rw [hLl]
  go_wp2
  go_loopw [8] (fun y wr => ∃ (k : Nat) (W : Int) (cs : List Int) (v : Value), k ≤ ps.length ∧ k ≤ 256 ∧ y = .int .i64 k ∧ upTo ps k = ⟨W, k, cs, 0⟩ ∧ cs.length ≤ k * 256 ∧ wr.ownsRow w1.heap.size 38 1 v cs.length (cellsH cs) ∧
    FAt wr (w.heap.size + 2) (.int .i64 W) (.int .i64 k) v ∧ Kept2 (w.heap.size + 2) (w.heap.size + 2) w1 wr) (fun y _ => ps.length + 1 - (intOf y).toNat)
  case atStart => exact ⟨0, 0, [], .slice none 0 0, Nat.zero_le _, Nat.zero_le _, rfl, rfl, Nat.le_refl _, World.ownsRow_nil _ _ _ _, F1, Kept2.of_below (bl0 _)⟩
  case round =>
    obtain ⟨k, W, cs, v, hk, hk2, rfl, hup, hcl, hv, F, hK⟩ := hrel
    have R : FAt wr w.heap.size (.int .i64 0) (.int .i64 0) (.slice none 0 0) := (hK.2 _ (by omega) (by omega) (by omega)).trans R1
    have N : FAt wr (w.heap.size + 1) (.int .i64 0) (.int .i64 0) (.slice none 0 0) := (hK.2 _ (by omega) (by omega) (by omega)).trans N1
    have hBr : Below w.heap.size w wr := hB1.trans (hK.below (by omega) (by omega) (by omega))
    have hsz : w1.heap.size ≤ wr.heap.size := hK.1.size
    have hkI : (k : Int) < (ps.length : Int) + 1 := by omega
    have hkI0 : (0 : Int) ≤ (k : Int) := by omega
    have hkI1 : (k : Int) ≤ 256 := by omega
    have HU := Lib.hid hup
    have HF := Lib.hid F
    have HR := Lib.hid R
    have HN := Lib.hid N
    have HV := Lib.hid hv
    have HK := Lib.hid hK
    have r0 := R.c0
    have r1 := R.c1
    have r2 := R.c2
    have r3 := R.f0
    have r4 := R.f1
    have r5 := R.f2
    have n0 := N.c0
    have n1 := N.c1
    have n2 := N.c2
    have zr := R.lt
    have zn := N.lt
    have zf := F.lt
    clear hup F R N hv hK R1 N1 F1
    have hQ := fun (x : List UInt8) (hj : (ps ++ [p])[k]? = some x) => HK.out.cell (HC.out k x hj) (by omega) (by omega)
    have hpl := cutB_mem 10 l
    rw [HCUT.out] at hpl
    obtain ⟨va, vc, rfl, hva⟩ := rowH_of_own HV.out
    clear hva
    by_cases hlast : k = ps.length
    · subst hlast
      have q := hQ p (by simp)
      clear hQ
      have HP10 := Lib.hid (suffix_no (cutB_no 10 l p (by rw [HCUT.out]; simp)))
      have hpl2 := hpl p (by simp)
      clear hpl
      have heq : ((ps.length : Int) == (ps.length : Int)) = true := by simp
      have zq := blk_lt q
      by_cases hp : p = []
      · subst hp
        have HPD := Lib.hid (par_done (by omega) h2 HCUT.out HU.out)
        have F := HF.out
        have f0 := F.c0
        have f1 := F.c1
        have f2 := F.c2
        clear F
        have ho := ownsRow_setCell_below (ownsRow_setCell_below (ownsRow_setCell_below HV.out (a := ⟨w.heap.size, 0, none⟩) (by simp; omega) (.int .i64 W)) (a := ⟨w.heap.size, 1, none⟩) (by simp; omega) (.int .i64 (ps.length : Int))) (a := ⟨w.heap.size, 2, none⟩) (by simp; omega) (.slice va cs.length vc)
        have HO := Lib.hid (own_base ho (show w.heap.size ≤ w1.heap.size by omega))
        clear ho
        go_wp2
        refine bodyPost_ret (v := .tuple #[.agg #[.int .i64 W, .int .i64 (ps.length : Int), .slice va cs.length vc], .int .i64 0, .int .i64 0]) (by simp [results, Tryd.results21, go_sem, r0, r1, r2]) rfl ⟨bl_st (bl_st (bl_st hBr (Nat.le_refl _) (o := 0) _) (Nat.le_refl _) (o := 1) _) (Nat.le_refl _) (o := 2) _, by rw [HPD.out]; exact ⟨_, rfl, HO.out⟩⟩
      · have HPL := Lib.hid (par_last (by omega) h2 HCUT.out HU.out hp HP10.out)
        have hpe : p.isEmpty = false := by cases p with
          | nil => exact absurd rfl hp
          | cons => rfl
        go_wp2
        refine bodyPost_ret (v := .tuple #[.agg #[.int .i64 0, .int .i64 0, .slice none 0 0], .int .i64 ((ps.length : Int) + 1), .int .i64 11]) (by simp [results, Tryd.results21, go_sem, r0, r1, r2]) rfl ⟨bl_st (bl_st (bl_st hBr (Nat.le_refl _) (o := 0) _) (Nat.le_refl _) (o := 1) _) (Nat.le_refl _) (o := 2) _, by rw [HPL.out]; exact ⟨_, rfl, World.ownsRow_nil _ _ _ _⟩⟩
    · have hlt : k < ps.length := by omega
      have hne : ((k : Int) == (ps.length : Int)) = false := by
        simp only [beq_eq_false_iff_ne, ne_eq]
        omega
      have hgk : (ps ++ [p])[k]? = some ps[k] := by rw [List.getElem?_append_left hlt, List.getElem?_eq_getElem hlt]
      have q := hQ ps[k] hgk
      have hpl2 := hpl ps[k] (by simp)
      have zq := blk_lt q
      obtain ⟨t, ht⟩ : ∃ t, ps[k] = t := ⟨_, rfl⟩
      rw [ht] at q hpl2
      have HT := Lib.hid ht
      clear hQ hpl ht hgk
      go_wp2_with fail
      refine (rcut_any t 32 wr (by omega)).mono ?_
      rintro e w2 ⟨wa, wcap, rfl, hown, hb⟩
      obtain ⟨ws, hws⟩ : ∃ ws, cutB 32 t = ws := ⟨_, rfl⟩
      have hwl := cutB_len 32 t
      have hwm := cutB_mem 32 t
      have hw0 : ws ≠ [] := by rw [← hws]; exact cutB_ne 32 t
      have hpw : piecesF ps[k] = ws := by rw [HT.out, ← cutB_pieces, hws]
      rw [hws] at hown hwl hwm
      rw [hws]
      have hw1 : 0 < ws.length := List.length_pos_iff.2 hw0
      obtain ⟨gw, rfl, hgw⟩ : ∃ gw, wa = some ⟨gw, 0, none⟩ ∧ wr.heap.size ≤ gw := by
        rcases hown.2 with ⟨_, h⟩ | ⟨gw, cap', cur, h, h', _⟩
        · omega
        · cases h; exact ⟨gw, rfl, h'⟩
      have hcellw := fun (j : Nat) (x : List UInt8) (hj : ws[j]? = some x) => hown.cells (g := gw) rfl j (.string ⟨x.toArray⟩) (by rw [cellsS, List.getElem?_map, hj]; rfl)
      simp only [addr_add, Nat.zero_add] at hcellw
      have HCW := Lib.hid hcellw
      have HPW := Lib.hid hpw
      have HWM := Lib.hid hwm
      have HR2 := Lib.hid (HR.out.later hb zr)
      have HN2 := Lib.hid (HN.out.later hb zn)
      have HF2 := Lib.hid (HF.out.later hb zf)
      have HV2 := Lib.hid (own_later HV.out hb)
      have HK2 := Lib.hid (HK.out.then (hb.mono hsz))
      have HB2 := Lib.hid (hBr.trans (hb.mono (show w.heap.size ≤ wr.heap.size by omega)))
      have hs2 := hb.size
      have hwlI : (ws.length : Int) ≤ 131073 := by omega
      clear hcellw hpw hwm hown hws q zq hb HR HN HF HV HK hBr r0 r1 r2 r3 r4 r5 n0 n1 n2 zr zn zf
      go_wp2
      go_loopw [10, 11] (fun row x wx => ∃ (j : Nat) (us : List Int), j ≤ ws.length ∧ x = .int .i64 j ∧ runP [] (ws.take j) = (us, 0) ∧ us.length = j ∧ wx.ownsRow w2.heap.size 38 1 row us.length (cellsH us) ∧ Below w2.heap.size w2 wx) (fun _ x _ => ws.length - (intOf x).toNat)
      case atStart => exact ⟨0, [], Nat.zero_le _, rfl, rfl, rfl, World.ownsRow_nil _ _ _ _, bl0 _⟩
      case round =>
        obtain ⟨j, us, hj, rfl, hrun, hul, hrow, hBx⟩ := hrel
        have R := HR2.out.later hBx (by omega)
        have N := HN2.out.later hBx (by omega)
        have hsx := hBx.size
        have HRUN := Lib.hid hrun
        have hj0 : (0 : Int) ≤ (j : Int) := by omega
        have hB3 := HB2.out.trans (hBx.mono (show w.heap.size ≤ w2.heap.size by omega))
        clear hrun
        by_cases hlj : j < ws.length
        · have hlj2 : (j : Int) < (ws.length : Int) := by omega
          have hgj : ws[j]? = some ws[j] := List.getElem?_eq_getElem hlj
          have q := cell_later hBx (HCW.out j ws[j] hgj)
          have hxl := HWM.out ws[j] (by simp)
          have zq := blk_lt q
          obtain ⟨u, hu⟩ : ∃ u, ws[j] = u := ⟨_, rfl⟩
          rw [hu] at q hxl
          have HXU := Lib.hid hu
          clear hgj hu
          go_wp2_with fail
          refine (rvalue_any u wr (by omega)).mono ?_
          rintro e w3 ⟨rfl, hb3⟩
          replace R := R.later hb3 R.lt
          replace N := N.later hb3 N.lt
          have hB4 := hB3.trans (hb3.mono (show w.heap.size ≤ wr.heap.size by omega))
          have r0 := R.c0
          have r1 := R.c1
          have r2 := R.c2
          have r3 := R.f0
          have r4 := R.f1
          have r5 := R.f2
          have n0 := N.c0
          have n1 := N.c1
          have n2 := N.c2
          have zr := R.lt
          have zn := N.lt
          clear q zq R N
          cases hvf : valF u with
          | none =>
            have hrd : readF ws[j] = (0, 11) := by rw [HXU.out]; unfold readF; rw [hvf]
            have HPB := Lib.hid (par_bad (by omega) h2 HCUT.out hlt HU.out (e := 11) (by rw [HPW.out]; exact runP_bad hlj HRUN.out hrd (by decide)) (by decide))
            rw [valR_none hvf]
            clear hvf hrd
            go_wp2
            refine bodyPost_ret (v := .tuple #[.agg #[.int .i64 0, .int .i64 0, .slice none 0 0], .int .i64 ((k : Int) + 1), .int .i64 11]) (by simp [results, Tryd.results21, go_sem, r0, r1, r2]) rfl ⟨bl_st (bl_st (bl_st hB4 (Nat.le_refl _) (o := 0) _) (Nat.le_refl _) (o := 1) _) (Nat.le_refl _) (o := 2) _, by rw [HPB.out]; exact ⟨_, rfl, World.ownsRow_nil _ _ _ _⟩⟩
          | some m =>
            by_cases hm : 65535 < m
            · have hrd : readF ws[j] = (0, 10) := by rw [HXU.out]; unfold readF; rw [hvf]; simp [hm]
              have HPB := Lib.hid (par_bad (by omega) h2 HCUT.out hlt HU.out (e := 10) (by rw [HPW.out]; exact runP_bad hlj HRUN.out hrd (by decide)) (by decide))
              have hmI : (65535 : Int) < (m : Int) := by omega
              rw [valR_some hvf]
              clear hvf hrd
              go_wp2
              refine bodyPost_ret (v := .tuple #[.agg #[.int .i64 0, .int .i64 0, .slice none 0 0], .int .i64 ((k : Int) + 1), .int .i64 10]) (by simp [results, Tryd.results21, go_sem, r0, r1, r2]) rfl ⟨bl_st (bl_st (bl_st hB4 (Nat.le_refl _) (o := 0) _) (Nat.le_refl _) (o := 1) _) (Nat.le_refl _) (o := 2) _, by rw [HPB.out]; exact ⟨_, rfl, World.ownsRow_nil _ _ _ _⟩⟩
            · have hrd : readF ws[j] = ((m : Int), 0) := by rw [HXU.out]; unfold readF; rw [hvf]; simp [hm]
              have HST := Lib.hid (runP_take hlj HRUN.out hrd)
              have hmI : (m : Int) ≤ 65535 := by omega
              have hm0 : (0 : Int) ≤ (m : Int) := by omega
              have hrow3 := own_later hrow hb3
              rw [valR_some hvf]
              clear hvf hrd
              go_wp2_with (at_builtin; refine wpList_append_own _ rfl _ _ 24 rfl w2.heap.size 38 i0 (.int .u16 0) 1 2 Tryd.underlying24 hi hz0 hz1 hz2 rfl (by decide) _ _ _ rfl (hrow3.alloc _) ⟨w3.heap.size, 0, none⟩ 1 1 [.int .u16 (m : Int)] rfl rfl ?c1 ?c2 ?c3 ?c4 ?c5 ?_)
              case c1 =>
                intro j u hj
                cases j with
                | succ j => simp at hj
                | zero =>
                  simp only [List.getElem?_cons_zero, Option.some.injEq] at hj
                  subst hj
                  simp [go_sem, addr_add]
              case c2 => intro u hu; simp at hu; subst hu; rfl
              case c3 => unfold maxLen; omega
              case c4 => omega
              case c5 => have := hb3.size; simp; omega
              intro v' w4 hown' hgrow _
              have hB5 : Below w2.heap.size w2 w4 := (bl_al (hBx.trans (hb3.mono hsx)) _).grown hgrow (by have := hb3.size; simp; omega) (fun i hi => (hrow.lt i hi).1)
              rw [← cellsH_snoc] at hown'
              go_wp2
              exact ⟨⟨j + 1, us ++ [(m : Int)], hlj, rfl, HST.out, by simp; omega, by have e : (us ++ [(m : Int)]).length = j + 1 := (by simp; omega); rw [e]; first | exact hown' | (rw [hul] at hown'; exact hown'), hB5⟩, by simp [intOf]; omega⟩
        · obtain rfl : j = ws.length := by omega
          have hrunall : runP [] ws = (us, 0) := by have h := HRUN.out; rw [List.take_length] at h; exact h
          have HRA := Lib.hid hrunall
          have F := HF2.out.later hBx (by omega)
          have r0 := R.c0
          have r1 := R.c1
          have r2 := R.c2
          have r3 := R.f0
          have r4 := R.f1
          have r5 := R.f2
          have n0 := N.c0
          have n1 := N.c1
          have n2 := N.c2
          have f0 := F.c0
          have f1 := F.c1
          have f2 := F.c2
          have f3 := F.f0
          have f4 := F.f1
          have f5 := F.f2
          have zr := R.lt
          have zn := N.lt
          have zf := F.lt
          have HFX := Lib.hid F
          have hnl : ¬ ((ws.length : Int) < (ws.length : Int)) := by omega
          clear hlj hrunall R N F
          by_cases hwide : 256 < ws.length
          · have hwI : (256 : Int) < (ws.length : Int) := by omega
            have HPF := Lib.hid (par_fits (by omega) h2 HCUT.out hlt HU.out (e := 10) (by rw [HPW.out]; exact HRA.out) (by rw [HPW.out]; unfold fitsF; rw [if_pos (by omega)]) (by decide))
            clear hwide
            go_wp2
            refine bodyPost_ret (v := .tuple #[.agg #[.int .i64 0, .int .i64 0, .slice none 0 0], .int .i64 ((k : Int) + 1), .int .i64 10]) (by simp [results, Tryd.results21, go_sem, r0, r1, r2]) rfl ⟨bl_st (bl_st (bl_st hB3 (Nat.le_refl _) (o := 0) _) (Nat.le_refl _) (o := 1) _) (Nat.le_refl _) (o := 2) _, by rw [HPF.out]; exact ⟨_, rfl, World.ownsRow_nil _ _ _ _⟩⟩
          have hwI : (ws.length : Int) ≤ 256 := by omega
          by_cases hsame : 0 < k ∧ (ws.length : Int) ≠ W
          · have hk3 : (0 : Int) < (k : Int) := by omega
            have hk4 : k ≠ 0 := by omega
            have hneq : ((ws.length : Int) != W) = true := by rw [bne_iff_ne]; exact hsame.2
            have HPF := Lib.hid (par_fits (by omega) h2 HCUT.out hlt HU.out (e := 12) (by rw [HPW.out]; exact HRA.out) (by rw [HPW.out, if_neg hk4]; unfold fitsF; rw [if_neg (by omega), if_pos hsame.2]) (by decide))
            clear hsame
            go_wp2
            refine bodyPost_ret (v := .tuple #[.agg #[.int .i64 0, .int .i64 0, .slice none 0 0], .int .i64 ((k : Int) + 1), .int .i64 12]) (by simp [results, Tryd.results21, go_sem, r0, r1, r2]) rfl ⟨bl_st (bl_st (bl_st hB3 (Nat.le_refl _) (o := 0) _) (Nat.le_refl _) (o := 1) _) (Nat.le_refl _) (o := 2) _, by rw [HPF.out]; exact ⟨_, rfl, World.ownsRow_nil _ _ _ _⟩⟩
          have hW2 : (if k = 0 then (ws.length : Int) else W) = (ws.length : Int) := by
            by_cases h0 : k = 0
            · rw [if_pos h0]
            · rw [if_neg h0]
              exact (Classical.byContradiction fun h => hsame ⟨by omega, fun e => h e.symm⟩)
          have HW2 := Lib.hid hW2
          have key : ¬ ((0 : Int) < (k : Int)) ∨ ((0 : Int) < (k : Int) ∧ ((ws.length : Int) != W) = false) := by
            by_cases h0 : k = 0
            · left; omega
            · right
              refine ⟨by omega, ?_⟩
              rw [if_neg h0] at hW2
              simp [hW2]
          clear hsame hW2
          by_cases hk6 : k = 256
          · subst hk6
            have HPF := Lib.hid (par_fits (by omega) h2 HCUT.out hlt HU.out (e := 10) (by rw [HPW.out]; exact HRA.out) (by rw [HPW.out, HW2.out]; unfold fitsF; rw [if_neg (by omega), if_neg (fun h => h rfl), if_pos (by omega)]) (by decide))
            rcases key with hkey | ⟨hkey, hkey2⟩
            · omega
            · go_wp2
              refine bodyPost_ret (v := .tuple #[.agg #[.int .i64 0, .int .i64 0, .slice none 0 0], .int .i64 (257), .int .i64 10]) (by simp [results, Tryd.results21, go_sem, r0, r1, r2]) rfl ⟨bl_st (bl_st (bl_st hB3 (Nat.le_refl _) (o := 0) _) (Nat.le_refl _) (o := 1) _) (Nat.le_refl _) (o := 2) _, by rw [HPF.out]; exact ⟨_, rfl, World.ownsRow_nil _ _ _ _⟩⟩
          have hk7 : ((k : Int) == 256) = false := by
            simp only [beq_eq_false_iff_ne, ne_eq]
            omega
          have HSTEP := Lib.hid (show upTo ps (k + 1) = ⟨(ws.length : Int), ((k + 1 : Nat) : Int), cs ++ us, 0⟩ from by
            have h := par_good hlt HU.out (by rw [HPW.out]; exact HRA.out)
            rw [HPW.out, HW2.out] at h
            rw [h]
            have e : fitsF (ws.length : Int) ((k : Int) + 1) (ws.length : Int) = 0 := by unfold fitsF; rw [if_neg (by omega), if_neg (fun h => h rfl), if_neg (by omega)]
            rw [e, Int.natCast_add]
            rfl)
          obtain ⟨gr, rcap, rfl⟩ := own_block hrow (by omega)
          have hV3 := own_later HV2.out hBx
          have hgr := (hrow.lt gr rfl).1
          have hA2 := ownsRow_setCell_below (ownsRow_setCell_below hV3 (a := ⟨w.heap.size + 1 + 1, 0, none⟩) (by simp; omega) (.int .i64 (ws.length : Int))) (a := ⟨w.heap.size + 1 + 1, 1, none⟩) (by simp; omega) (.int .i64 ((k : Int) + 1))
          have hsx2 := hBx.size
          clear hV3
          rcases key with hkey | ⟨hkey, hkey2⟩
          all_goals
            go_wp2_with (at_builtin; refine wpList_append_own _ rfl _ _ 24 rfl w1.heap.size 38 i0 (.int .u16 0) 1 2 Tryd.underlying24 hi hz0 hz1 hz2 rfl (by decide) _ _ _ rfl hA2 ⟨gr, 0, none⟩ ws.length rcap (cellsH us) rfl ?c0 ?c1 ?c2 ?c3 ?c4 ?c5 ?_)
            case c0 => rw [cellsH_len, hul]
            case c1 => exact fun j u hj => by have h := hrow.cells (g := gr) rfl j u hj; rw [addr_add, Nat.zero_add] at h; exact h
            case c2 => exact cellsH_one us
            case c3 => unfold maxLen; omega
            case c4 => omega
            case c5 => omega
            intro v' w4 hown' hgrow _
            have hBA := (bl0 ((wr.setCell ⟨w.heap.size + 1 + 1, 0, none⟩ (.int .i64 (ws.length : Int))).setCell ⟨w.heap.size + 1 + 1, 1, none⟩ (.int .i64 ((k : Int) + 1)))).mono (show w1.heap.size ≤ _ by simp; omega)
            replace hBA := hBA.grown hgrow (by simp; omega) (fun i hi => (hA2.lt i hi).1)
            have F4 := (((HFX.out.set0 (.int .i64 (ws.length : Int))).set1 (.int .i64 ((k : Int) + 1))).later hBA (by omega))
            have hK4 := (((HK2.out.then (hBx.mono (show w1.heap.size ≤ w2.heap.size by omega))).trans (Kept2.stg (o := 0) (.int .i64 (ws.length : Int)))).trans (Kept2.stg (o := 1) (.int .i64 ((k : Int) + 1)))).then hBA
            have e4 : (cs ++ us).length = cs.length + ws.length := by rw [List.length_append, hul]
            have hownA : w4.ownsRow w1.heap.size 38 1 v' (cs ++ us).length (cellsH (cs ++ us)) := by rw [e4, show cellsH (cs ++ us) = cellsH cs ++ cellsH us by simp [cellsH]]; exact hown'
            obtain ⟨va', vc', hv', _⟩ := rowH_of_own hownA
            rw [e4] at hv'
            subst hv'
            have p2 := F4.c2
            have p5 := F4.f2
            have zp := F4.lt
            have HF5 := Lib.hid (F4.set2 (.slice va' (cs.length + ws.length) vc'))
            have HK5 := Lib.hid (hK4.trans (Kept2.stg (o := 2) (.slice va' (cs.length + ws.length) vc')))
            have HO5 := Lib.hid (ownsRow_setCell_below hownA (a := ⟨w.heap.size + 1 + 1, 2, none⟩) (by simp; omega) (.slice va' (cs.length + ws.length) vc'))
            clear F4 hK4 hownA hown' hgrow hBA hA2 hrow f0 f1 f2 f3 f4 f5 zf
            go_wp2
            exact ⟨⟨k + 1, (ws.length : Int), cs ++ us, .slice va' (cs.length + ws.length) vc', by omega, by omega, rfl, HSTEP.out, by rw [e4]; omega, HO5.out, HF5.out, HK5.out⟩, by simp [intOf]; omega⟩
theorem rparse_any (s : ByteArray) (w : World) :
    Calls Tryd.prog 21 #[.string s] w fun e w' => Below w.heap.size w w' ∧ ∃ v, e = .returned (.tuple #[.agg #[.int .i64 (parF s.data.toList).1.W, .int .i64 (parF s.data.toList).1.H, v], .int .i64 (parF s.data.toList).2, .int .i64 (parF s.data.toList).1.e]) ∧
      w'.ownsRow w.heap.size 38 1 v (parF s.data.toList).1.cs.length (cellsH (parF s.data.toList).1.cs) := by
  obtain ⟨l, hl⟩ : ∃ l, s.data.toList = l := ⟨_, rfl⟩
  have hs : s = ⟨l.toArray⟩ := by rw [← hl]
  rw [hl, hs]
  by_cases h1 : 131072 < l.length
  · have hp : parF l = (⟨0, 0, [], 12⟩, 0) := by unfold parF; rw [if_pos h1]
    rw [hp]
    refine (rparse_long l w h1).mono ?_
    rintro e w' ⟨hb, rfl⟩
    exact ⟨hb, _, rfl, World.ownsRow_nil _ _ _ _⟩
  · by_cases h2 : l = []
    · subst h2
      have hp : parF [] = (⟨0, 0, [], 11⟩, 1) := rfl
      rw [hp]
      refine (rparse_none w).mono ?_
      rintro e w' ⟨hb, rfl⟩
      exact ⟨hb, _, rfl, World.ownsRow_nil _ _ _ _⟩
    · have hne := cutB_ne 10 l
      exact rparse_main l w (by omega) h2 (cutB 10 l).dropLast ((cutB 10 l).getLast hne) (List.dropLast_concat_getLast hne).symm
end Go.Proofs.YthnpoeobieninaaDoor
