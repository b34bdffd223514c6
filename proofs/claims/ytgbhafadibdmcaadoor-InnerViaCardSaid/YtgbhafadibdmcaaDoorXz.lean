/- InnerVia: the mathematics. -/
import Derived.Test.YtgbhafadibdmcaaDoorXy
import Derived.Test.YtgbhafadibdmcaaDoorXr
import Derived.Test.YtgbhafadibdmcaaDoorJ1
import Derived.Test.YtgbhafadibdmcaaDoorL1
namespace Go.Proofs.YtgbhafadibdmcaaDoor
open Go.RowKit

/-- What holds of a table of cells of a cluster, cell by cell. -/
structure ViaF (A B : Int) (zs : List Int) (cs : List IC) (TB : List (List Int)) : Prop where
  len : TB.length = cs.length
  row : ∀ r ∈ TB, r.length = cs.length
  u : ∀ r ∈ TB, AllU r
  on : ∀ c ∈ cs, (IntKind.i64.wrap (c.2 * A) = c.2 * A ∧ IntKind.i64.wrap (c.2 * A + c.1) = (numN A c : Int)) ∧ numN A c < zs.length ∧ errW A B zs.length (0, 0, A, B) c = 0
  own : ∀ (i : Nat) (hi : i < cs.length) (r : List Int), TB[i]? = some r → (zs.getD (numN A cs[i]) 0 = 0 → atD r i = 18446744073709551615) ∧ (zs.getD (numN A cs[i]) 0 ≠ 0 → atD r i = 0)
  whole : ∀ (i : Nat) (hi : i < cs.length) (r : List Int), TB[i]? = some r → ∀ l : List Int, l.length = zs.length → Far (gphB A B (0, 0, A, B) zs) (numN A cs[i]) (atD l) → ∀ (j : Nat) (hj : j < cs.length), atD l (numN A cs[j]) ≤ atD r j
  via : ∀ (i : Nat), i < cs.length → ∀ (r : List Int), TB[i]? = some r → ∀ j : Nat, j < cs.length → viaAt r TB j = atD r j
theorem tbl_row (A : Int) (b : BX) (zs : List Int) (cs : List IC) {i : Nat} (hi : i < cs.length) {r : List Int} (h : (tblO A b zs cs)[i]? = some r) : ∀ (j : Nat) (hj : j < cs.length), atD r j = atD (farO A b zs cs[i]) (numN A cs[j]) := by
  intro j hj
  unfold tblO at h
  rw [List.getElem?_map, List.getElem?_eq_getElem hi] at h
  have e := Option.some.inj h
  rw [← e]
  unfold rowO atD
  rw [List.getD_eq_getElem?_getD, List.getElem?_map, List.getElem?_eq_getElem hj]
  rfl
theorem whole_in {A B : Int} {c : IC} (hm : mayB A B = true) (ho : onB A B c = true) : fitsB A B 0 0 A B = true ∧ inBx (0, 0, A, B) c = true := by
  obtain ⟨m1, m2, m3, m4⟩ := mayB_iff.1 hm
  obtain ⟨h1, h2, h3, h4, h5, h6, h7, h8⟩ := inB_iff.1 ho
  have hr : rightB 0 0 A B = true := rightB_iff.2 (by omega)
  exact ⟨fitsB_iff.2 ⟨hr, hm, by omega, by omega, by omega, by omega, by omega, by omega⟩, (show hasB 0 0 A B c.1 c.2 = true from hasB_iff.2 ⟨hr, by omega, by omega, by omega, by omega⟩)⟩
theorem via_facts {A B : Int} {a : Option Addr} {cap : Nat} {zs : List Int} {X Y S id : Int} {cs : List IC} {w : World} (hs : Stp w) (hr : RowH w a zs) (hz : AllH zs) (h : chkI A B zs.length X Y S id cs = 0) :
    ViaF A B zs cs (tblO A (bxB A B S id) zs cs) := by
  obtain ⟨hchk, rfl, rfl, hpl, hwr⟩ := chkI_ok h
  obtain ⟨BX, BY, U, V, hbb, _, hbx, hhas⟩ := clu_box hpl
  rw [hbb]
  have hin : ∀ c ∈ cs, inBx (BX, BY, (U : Int), (V : Int)) c = true := fun c hc => by rw [← hhas]; exact wrg_in hwr c hc
  obtain ⟨hmay, hn⟩ := chkF_may hchk
  obtain ⟨m1, m2, m3, m4⟩ := mayB_iff.1 hmay
  have hF : ∀ c ∈ cs, Far (gphB X Y (BX, BY, (U : Int), (V : Int)) zs) (numN X c) (atD (farO X (BX, BY, (U : Int), (V : Int)) zs c)) := fun c hc => farO_far X Y a cap zs (BX, BY, (U : Int), (V : Int)) c w hz hr hs hn hbx.fits (hin c hc)
  have hlen : (tblO X (BX, BY, (U : Int), (V : Int)) zs cs).length = cs.length := by simp [tblO]
  have hmem : ∀ r ∈ tblO X (BX, BY, (U : Int), (V : Int)) zs cs, ∃ (i : Nat) (hi : i < cs.length), (tblO X (BX, BY, (U : Int), (V : Int)) zs cs)[i]? = some r ∧ r = rowO X (BX, BY, (U : Int), (V : Int)) zs cs[i] cs := fun r hr => by
    obtain ⟨i, hi⟩ := List.getElem?_of_mem hr
    have hil : i < cs.length := by have := (List.getElem?_eq_some_iff.1 hi).1; omega
    refine ⟨i, hil, hi, ?_⟩
    unfold tblO at hi
    rw [List.getElem?_map, List.getElem?_eq_getElem hil] at hi
    exact (Option.some.inj hi).symm
  have hnum : ∀ c ∈ cs, numN X c < zs.length := fun c hc => by
    obtain ⟨o1, _⟩ := hbx.on (hin c hc)
    obtain ⟨i1, i2⟩ := numN_int o1
    omega
  have hrow : ∀ r ∈ tblO X (BX, BY, (U : Int), (V : Int)) zs cs, r.length = cs.length := fun r hr => by
    obtain ⟨i, hi, _, e⟩ := hmem r hr
    rw [e]; exact rowO_len X _ zs cs[i] cs
  refine ⟨hlen, hrow, fun r hr => ?_, fun c hc => ?_, fun i hi r hr => ?_, fun i hi r hr l hl hf j hj => ?_, fun i hi r hr j hj => ?_⟩
  · obtain ⟨i, hi, _, e⟩ := hmem r hr
    rw [e]
    intro d hd
    unfold rowO at hd
    obtain ⟨c, hc, rfl⟩ := List.mem_map.1 hd
    have hf := hF cs[i] (List.getElem_mem hi)
    exact ⟨hf.ge0 _, hf.le_inf _⟩
  · obtain ⟨o1, _⟩ := hbx.on (hin c hc)
    obtain ⟨i1, i2⟩ := numN_int o1
    obtain ⟨h1', h2', h3', h4', h5', h6', h7', h8'⟩ := inB_iff.1 o1
    obtain ⟨k1, k2⟩ := mul_bd h7' (by omega) h1' h2'
    refine ⟨⟨IntWalk.i64_in _ (by omega), by rw [i1]; exact IntWalk.i64_in _ (by omega)⟩, hnum c hc, ?_⟩
    obtain ⟨q1, q2⟩ := whole_in hmay o1
    unfold errW
    rw [if_pos hchk, if_pos ⟨q1, q2⟩]
  · have hf := hF cs[i] (List.getElem_mem hi)
    have hc := hin cs[i] (List.getElem_mem hi)
    obtain ⟨o1, _⟩ := hbx.on hc
    rw [tbl_row X _ zs cs hi hr i hi]
    refine ⟨fun h0 => hf.wall _ (fun ho => (gphB_opn.1 ho).2.2 h0), fun h0 => hf.src (gphB_opn.2 ⟨hnum _ (List.getElem_mem hi), by rw [cellN_num o1]; exact hc, h0⟩)⟩
  · rw [tbl_row X _ zs cs hi hr j hj]
    have h1 := hF cs[i] (List.getElem_mem hi)
    refine Far.mono (gphB_ok hmay hn hz) h1 hf (fun x hx => ?_) (fun x hx y hy => hy) _
    obtain ⟨o1, o2, o3⟩ := gphB_opn.1 hx
    have hon := (hbx.on o2).1
    have hw := (whole_in hmay hon).2
    exact ⟨gphB_opn.2 ⟨o1, hw, o3⟩, by rw [gphB_k hw, gphB_k o2]⟩
  · have hri := hrow r (List.mem_of_getElem? hr)
    have hfi := hF cs[i] (List.getElem_mem hi)
    have e1 := tbl_row X _ zs cs hi hr
    have hterm : ∀ (k : Nat) (z : List Int) (hk : k < cs.length), (tblO X (BX, BY, (U : Int), (V : Int)) zs cs)[k]? = some z → atD r j ≤ addC (atD r k) (atD z j) := fun k z hk hz' => by
      have e2 := tbl_row X _ zs cs hk hz' j hj
      rw [e1 j hj, e1 k hk, e2]
      by_cases hd : atD (farO X (BX, BY, (U : Int), (V : Int)) zs cs[i]) (numN X cs[k]) = 18446744073709551615
      · rw [hd]
        have := (hF cs[k] (List.getElem_mem hk)).ge0 (numN X cs[j])
        have := hfi.le_inf (numN X cs[j])
        unfold addC; split <;> omega
      · exact three_le hmay hn hz hfi (hF cs[k] (List.getElem_mem hk)) hd
    unfold viaAt
    have hm : atD r j ≤ 18446744073709551615 := by rw [e1 j hj]; exact hfi.le_inf _
    obtain ⟨v1, v2⟩ := viaTo_eq (xs := r) (rs := tblO X (BX, BY, (U : Int), (V : Int)) zs cs) (p := j) hm r.length (Nat.le_refl _) (by omega) (fun k z hk hz' => hterm k z (by omega) hz')
    have v3 := v2 i r (by omega) hr
    have hii : addC (atD r i) (atD r j) = atD r j := by
      have hc := hin cs[i] (List.getElem_mem hi)
      obtain ⟨o1, _⟩ := hbx.on hc
      by_cases h0 : zs.getD (numN X cs[i]) 0 = 0
      · have hno : ¬ (gphB X Y (BX, BY, (U : Int), (V : Int)) zs).opn (numN X cs[i]) := fun ho => (gphB_opn.1 ho).2.2 h0
        rw [e1 i hi, e1 j hj, hfi.nos hno, hfi.nos hno]
        decide
      · rw [e1 i hi, hfi.src (gphB_opn.2 ⟨hnum _ (List.getElem_mem hi), by rw [cellN_num o1]; exact hc, h0⟩)]
        have := hfi.ge0 (numN X cs[j])
        rw [← e1 j hj] at this
        unfold addC; split <;> omega
    omega
end Go.Proofs.YtgbhafadibdmcaaDoor
