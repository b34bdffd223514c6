/- MaskOf: the law's walk. -/
import Derived.Test.YtgkeifjnnpcleaaNe
import Derived.Test.YtgkeifjnnpcleaaKj
import Derived.Test.YtgkeifjnnpcleaaJq
import Derived.Test.YtgkeifjnnpcleaaJr
import Derived.Test.YtgkeifjnnpcleaaJv
namespace Go.Proofs.Ytgkeifjnnpcleaa
open Go.RowKit

/-- The size in its box. -/
def HeldS (w : World) (A B : Int) (W : World) : Prop := Below w.heap.size w W ∧ W.cell? ⟨w.heap.size, 0, none⟩ = some (.int .i64 A) ∧ W.cell? ⟨w.heap.size, 1, none⟩ = some (.int .i64 B)
theorem HeldS.below {w W W' : World} {A B : Int} (h : HeldS w A B W) (hb : Below W.heap.size W W') : HeldS w A B W' := by
  obtain ⟨h0, h1, h2⟩ := h
  exact ⟨bl_tr h0 hb, cell_later hb h1, cell_later hb h2⟩
theorem heldS_bel {w W : World} {A B : Int} (h : HeldS w A B W) : Below w.heap.size w W := h.1
theorem bytesAt_of {W : World} {g : Nat} {bs : List Nat} (h : W.heap[g]? = some (.cells (bs.map (fun x : Nat => Value.int .u8 (x : Int))).toArray 5 (0, 0))) : BytesAt W g 0 bs := by
  intro j x hj
  simp [World.cell?, h, hj]

set_option maxRecDepth 100000 in
set_option maxHeartbeats 4000000 in
theorem of_walk (A B : Int) (a : Option Addr) (ca : Nat) (bs : List Nat) (w : World) (ra : bs = [] ∨ ∃ g o, a = some ⟨g, o, none⟩ ∧ BytesAt w g o bs) (hbs : IsBytes bs) :
    Calls Try.prog 4 #[.agg #[.int .i64 A, .int .i64 B], .slice a bs.length ca] w fun e w' => e = .returned (.bool true) ∧ Below w.heap.size w w' := by
  have RA := Lib.hid ra
  clear ra
  go_enter Try.func4, Try.ntmps4
  go_wp2_with fail
  obtain ⟨w0, hw0⟩ : ∃ w0, w.alloc (.cells #[.int .i64 A, .int .i64 B] 23) = w0 := ⟨_, rfl⟩
  have hH : HeldS w A B w0 := by rw [← hw0]; exact ⟨bl_al (bl0 w) _, by simp [go_sem], by simp [go_sem]⟩
  have H := Lib.hid hH
  rw [hw0]
  clear hw0 hH
  obtain ⟨_, s0, s1⟩ := H.out
  refine (small_any _ _ _).mono ?_
  rintro e w1 ⟨rfl, hb⟩
  replace H := Lib.hid (H.out.below hb)
  clear s0 s1
  obtain ⟨_, s0, s1⟩ := H.out
  clear hb
  cases hsm : smallB A B
  · skip
    go_wp2_with fail
    refine (awake_any _).mono ?_
    rintro e w99 ⟨rfl, hb⟩
    replace H := Lib.hid (H.out.below hb)
    clear hb s0 s1
    go_wp2
    go_ret
    exact ⟨rfl, H.out.1⟩
  · by_cases l0 : (100 : Int) < (bs.length : Int)
    · skip
      go_wp2_with fail
      refine (awake_any _).mono ?_
      rintro e w99 ⟨rfl, hb⟩
      replace H := Lib.hid (H.out.below hb)
      clear hb s0 s1
      go_wp2
      go_ret
      exact ⟨rfl, H.out.1⟩
    · have SM := Lib.hid hsm
      have lb : bs.length ≤ 100 := by omega
      clear hsm l0
      cases hma : mayB A B
      · have P1 := fun w => of_no A B a bs.length ca w hma
        have P2 := fun w => rof_no A B a bs.length ca w hma
        clear hma
        go_wp2_with fail
        refine (P1 _).mono ?_
        rintro e w2 ⟨rfl, hb⟩
        replace H := Lib.hid (H.out.below hb)
        clear s0 s1
        obtain ⟨_, s0, s1⟩ := H.out
        clear hb
        go_wp2_with fail
        refine (P2 _).mono ?_
        rintro e w3 ⟨rfl, hb⟩
        replace H := Lib.hid (H.out.below hb)
        clear s0 s1
        obtain ⟨_, s0, s1⟩ := H.out
        clear hb P1 P2
        go_wp2_with fail
        refine (awake_any _).mono ?_
        rintro e w99 ⟨rfl, hb⟩
        replace H := Lib.hid (H.out.below hb)
        clear hb s0 s1
        go_wp2
        go_ret
        exact ⟨rfl, H.out.1⟩
      · by_cases hlen : (bs.length : Int) = (A * B + 7) / 8
        · have hXY : 1 ≤ A * B := by
            obtain ⟨h1, h2, h3, h4⟩ := mayB_iff.1 hma
            have := Int.mul_pos (show 0 < A by omega) (show 0 < B by omega)
            omega
          have hra := RA.out
          rcases hra with e0 | ⟨g, o, rfl, hby⟩
          · rw [e0] at hlen; simp at hlen; omega
          have BY := Lib.hid (fun W (hb : Below w.heap.size w W) => hby.below hb)
          clear hby RA hXY
          have HLEN := Lib.hid hlen
          have HMA := Lib.hid hma
          cases hsp : spareB A B bs
          · have hgood := (good_spare hma hlen hbs).1 hsp
            have HG := Lib.hid hgood
            have HSP := Lib.hid hsp
            have HEQ := Lib.hid (cells_same hgood)
            have HT := Lib.hid (show (cellsM A B bs).take 600 = cellsM A B bs from List.take_of_length_le (by have := cellsM_small hgood SM.out; omega))
            have lc : (cellsM A B bs).length ≤ 1048576 := by have := cellsM_small hgood SM.out; omega
            have LC := Lib.hid lc
            clear hgood hsp hlen hma lc
            go_wp2_with fail
            refine (of_yes A B bs g o ca _ HMA.out HLEN.out (BY.out _ H.out.1) HSP.out).mono ?_
            rintro e w2 ⟨b, h, rfl, mk, _, _, _, hb⟩
            have MK := Lib.hid mk
            replace H := Lib.hid (H.out.below hb)
            clear s0 s1
            obtain ⟨_, s0, s1⟩ := H.out
            clear hb mk
            go_wp2_with fail
            refine (rof_any A B g o ca bs _ HMA.out HLEN.out (BY.out _ H.out.1) hbs).mono ?_
            rintro e w3 hor
            rcases hor with ⟨rfl, ⟨i, hi1, hi2⟩, hb⟩ | ⟨b2, h2, rfl, mr, _, hb⟩
            · exact absurd (HG.out.2.2.2 i hi1) (by rw [hi2]; simp)
            have MR := Lib.hid mr
            replace MK := Lib.hid (MK.out.below hb)
            replace H := Lib.hid (H.out.below hb)
            clear s0 s1
            obtain ⟨_, s0, s1⟩ := H.out
            clear hb mr
            go_upto_region 9 with fail
            have hA := bl_dr (bl0 w3)
            replace s0 := cell_later hA s0
            replace s1 := cell_later hA s1
            replace MK := Lib.hid (MK.out.below hA)
            replace MR := Lib.hid (MR.out.below hA)
            replace H := Lib.hid (H.out.below hA)
            have hX1 : 1 ≤ A := by have := mayB_iff.1 HMA.out; omega
            have lfs : (fsOf (A * B).toNat bs).length ≤ 65536 := by
              have h0 := mayB_iff.1 HMA.out
              have h1 : A * B ≤ 256 * B := Int.mul_le_mul_of_nonneg_right h0.2.1 (by omega)
              simp [fsOf]; omega
            have HRC := Lib.hid (fun w hm => rcells_any b2 h2 A B (fsOf (A * B).toNat bs) w hm hX1 lfs)
            rw [HEQ.out] at HRC
            have HLB := Lib.hid (show bs.length ≤ 65536 by omega)
            have HLB2 := Lib.hid (show bs.length ≤ 1048576 by omega)
            clear hA lfs hX1
            go_region_held3 (fun w' => w'.cell? ⟨w.heap.size, 0, none⟩ = some (.int .i64 A) ∧ w'.cell? ⟨w.heap.size, 1, none⟩ = some (.int .i64 B))
              (exact ⟨s0, s1⟩)
              (first
                | (go_at_call 13; (with_reducible refine (size_any b h A B bs _ MK.out).mono ?_); rintro e W4 ⟨rfl, hb⟩; replace s0 := cell_later hb s0; replace s1 := cell_later hb s1; replace MK := Lib.hid (MK.out.below hb); replace MR := Lib.hid (MR.out.below hb); replace H := Lib.hid (H.out.below hb); clear hb)
                | (go_at_call 21; (with_reducible refine (lcells_any b h A B bs _ MK.out hbs HLB.out).mono ?_); rintro e W5 ⟨az, cz, zs, hzs, rfl, rz, hb⟩; rw [HT.out] at hzs; subst hzs; have RZ := Lib.hid rz; replace s0 := cell_later hb s0; replace s1 := cell_later hb s1; replace MK := Lib.hid (MK.out.below hb); replace MR := Lib.hid (MR.out.below hb); replace H := Lib.hid (H.out.below hb); clear hb rz)
                | (go_at_call 18; (with_reducible refine (HRC.out _ MR.out).mono ?_); rintro e W6 ⟨ay, cy, rfl, ry, hb⟩; have RY := Lib.hid ry; replace s0 := cell_later hb s0; replace s1 := cell_later hb s1; replace MK := Lib.hid (MK.out.below hb); replace RZ := Lib.hid (RZ.out.below hb); replace H := Lib.hid (H.out.below hb); clear hb ry)
                | (go_at_call 20; (with_reducible refine (same_rows _ _ _ _ (cellsM A B bs) _ RZ.out RY.out LC.out).mono ?_); rintro e W7 ⟨rfl, hb⟩; replace s0 := cell_later hb s0; replace s1 := cell_later hb s1; replace MK := Lib.hid (MK.out.below hb); replace H := Lib.hid (H.out.below hb); clear hb)
                | (go_at_call 23; (with_reducible refine (bytes_any b h A B bs _ MK.out HLB.out).mono ?_); rintro e W8 ⟨rfl, hby, hb⟩; have BZ := Lib.hid (bytesAt_of hby); replace s0 := cell_later hb s0; replace s1 := cell_later hb s1; replace H := Lib.hid (H.out.below hb); clear hb hby)
                | (go_at_call 22; (with_reducible refine (bytes_rows _ 0 g o _ _ bs _ BZ.out (BY.out _ (heldS_bel H.out)) HLB2.out).mono ?_); rintro e W9 ⟨rfl, hb⟩; replace s0 := cell_later hb s0; replace s1 := cell_later hb s1; replace H := Lib.hid (H.out.below hb); clear hb)
                | (go_at_call 10; (with_reducible refine (awake_any _).mono ?_); rintro e W10 ⟨rfl, hb⟩; replace s0 := cell_later hb s0; replace s1 := cell_later hb s1; replace H := Lib.hid (H.out.below hb); clear hb))
            clear s0 s1
            go_wp2
            go_ret
            exact ⟨rfl, heldS_bel H.out⟩
          · have HNG := Lib.hid (show ¬ Good A B bs from fun hg => by have := (good_spare hma hlen hbs).2 hg; rw [hsp] at this; cases this)
            have P1 := fun w hc => of_spare A B bs g o ca w hma hlen hc hsp
            have P2 := fun w hc => rof_any A B g o ca bs w hma hlen hc hbs
            clear hsp hma hlen
            go_wp2_with fail
            refine (P1 _ (BY.out _ H.out.1)).mono ?_
            rintro e w2 ⟨rfl, hb⟩
            replace H := Lib.hid (H.out.below hb)
            clear s0 s1
            obtain ⟨_, s0, s1⟩ := H.out
            clear hb P1
            go_wp2_with fail
            refine (P2 _ (BY.out _ H.out.1)).mono ?_
            rintro e w3 hor
            rcases hor with ⟨rfl, _, hb⟩ | ⟨b2, h2, rfl, mr, hall, hb⟩
            · skip
              replace H := Lib.hid (H.out.below hb)
              clear s0 s1
              obtain ⟨_, s0, s1⟩ := H.out
              clear hb P2
              go_wp2_with fail
              refine (awake_any _).mono ?_
              rintro e w99 ⟨rfl, hb⟩
              replace H := Lib.hid (H.out.below hb)
              clear hb s0 s1
              go_wp2
              go_ret
              exact ⟨rfl, H.out.1⟩
            · exact absurd ⟨HMA.out, HLEN.out, hbs, hall⟩ HNG.out
        · have P1 := fun w => of_len A B a bs.length ca w hma hlen
          have P2 := fun w => rof_len A B a bs.length ca w hma hlen
          clear hma hlen
          go_wp2_with fail
          refine (P1 _).mono ?_
          rintro e w2 ⟨rfl, hb⟩
          replace H := Lib.hid (H.out.below hb)
          clear s0 s1
          obtain ⟨_, s0, s1⟩ := H.out
          clear hb
          go_wp2_with fail
          refine (P2 _).mono ?_
          rintro e w3 ⟨rfl, hb⟩
          replace H := Lib.hid (H.out.below hb)
          clear s0 s1
          obtain ⟨_, s0, s1⟩ := H.out
          clear hb P1 P2
          go_wp2_with fail
          refine (awake_any _).mono ?_
          rintro e w99 ⟨rfl, hb⟩
          replace H := Lib.hid (H.out.below hb)
          clear hb s0 s1
          go_wp2
          go_ret
          exact ⟨rfl, H.out.1⟩
end Go.Proofs.Ytgkeifjnnpcleaa
