/- The numbers of a set's cells, as an iterator: its contract. -/
import Derived.RangeFuncNested
import Derived.RangeFuncBound
import Derived.RangeFuncBox
import Derived.RangeFuncCalls
import Derived.RangeFuncLeaves
import Derived.Shelf.Abstract
import Derived.Shelf.RegionOpen
import Derived.WalkKit
import Derived.OwnWalkIn
import Derived.TacticsInMore
import Derived.LoopNIn
import Derived.LoopIn
import Derived.Test.YtgkeifjnnpcleaaJm
namespace Go.Proofs.Ytgkeifjnnpcleaa
open Go.RowKit Go.Shelf
attribute [local go_sem] Oper.semAt_some

/-- Three blocks lie as they lay: a pointer's box, a set, its bytes. -/
def Keep3 (p b h : Nat) (A B : World) : Prop := B.heap[p]? = A.heap[p]? ∧ B.heap[b]? = A.heap[b]? ∧ B.heap[h]? = A.heap[h]?
theorem Keep3.refl (p b h : Nat) (A : World) : Keep3 p b h A A := ⟨rfl, rfl, rfl⟩
theorem Keep3.trans {p b h : Nat} {A B C : World} (x : Keep3 p b h A B) (y : Keep3 p b h B C) : Keep3 p b h A C := ⟨y.1.trans x.1, y.2.1.trans x.2.1, y.2.2.trans x.2.2⟩
/-- A pointer to a set in a box of its own. -/
def SetAt (W : World) (p b h : Nat) (X Y : Int) (bs : List Nat) : Prop := W.cell? ⟨p, 0, none⟩ = some (.pointer (some ⟨b, 0, none⟩)) ∧ MaskAt W b h X Y bs
theorem SetAt.kept {W W' : World} {p b h : Nat} {X Y : Int} {bs : List Nat} (s : SetAt W p b h X Y bs) (k : Keep3 p b h W W') : SetAt W' p b h X Y bs :=
  ⟨(World.cell?_of_block (a := ⟨p, 0, none⟩) k.1).trans s.1, k.2.1.trans s.2.1, k.2.2.trans s.2.2⟩

set_option maxRecDepth 100000 in
set_option maxHeartbeats 4000000 in
theorem nums1_in (n l p b h : Nat) (X Y : Int) (bs : List Nat) (J Jx : List Int → World → Prop) (W : World) (hbs : IsBytes bs) (hl : bs.length ≤ 65536)
    (hY : ∀ pre x W1, J pre W1 → pre.length < (numsOf bs).length → YieldAt Fence.wide (n - 1) Try.prog l #[.int .i64 x] W1 fun e W' =>
      (e = .returned (.bool true) ∧ J (pre ++ [x]) W' ∧ Keep3 p b h W1 W') ∨ (e = .returned (.bool false) ∧ Jx (pre ++ [x]) W'))
    (hs : SetAt W p b h X Y bs) (h0 : J [] W) :
    CallsIn Fence.wide n Try.prog 52 #[.func (.yield l) #[] #[], .pointer (some ⟨p, 0, none⟩)] W fun e W' => (∃ v, e = .returned v) ∧
      (J (numsOf bs) W' ∨ ∃ q, q <+: numsOf bs ∧ Jx q W') := by
  have c0 := hs.1
  have c2 := hs.2.c2
  have hl2 : (bs.length : Int) ≤ 65536 := by omega
  refine callsIn_of_wp Try.func52 rfl trivial ?_ rfl
  simp only [Try.ntmps52, List.size_toArray, List.length_cons, List.length_nil, Nat.reduceAdd, Nat.reduceSub, Array.replicate_succ, Array.replicate_zero, List.push_toArray, List.append_toArray, List.nil_append, List.cons_append]
  gi_wp2
  gi_loopw [12] (fun i wr => ∃ k : Nat, k ≤ bs.length ∧ i = .int .i64 k ∧ J (numsTo bs k) wr ∧ SetAt wr p b h X Y bs) (fun i _ => bs.length - (intOf i).toNat)
  case atStart => exact ⟨0, Nat.zero_le _, rfl, h0, hs⟩
  case round =>
    obtain ⟨k, hk, rfl, hJ, hsr⟩ := hrel
    clear c0 c2
    by_cases hlt : k < bs.length
    · have hlt2 : (k : Int) < (bs.length : Int) := by omega
      have hk0 : (0 : Int) ≤ (k : Int) := by omega
      have q := hsr.2.at (List.getElem?_eq_getElem hlt)
      have hx : bs[k] < 256 := hbs _ (List.getElem_mem hlt)
      have hgd : bs.getD k 0 = bs[k] := by simp [List.getD_eq_getElem?_getD, hlt]
      have HG := Lib.hid hgd
      clear hgd
      gi_wp2
      gi_loopw [4] (fun v wx => ∃ d c, bl (bs.getD k 0) = d ++ bl c ∧ c < 256 ∧ v = .int .u8 (c : Nat) ∧ J (numsTo bs k ++ d.map (numOf k)) wx ∧ SetAt wx p b h X Y bs) (fun v _ => (intOf v).toNat)
      case atStart => exact ⟨[], bs[k], by rw [HG.out]; rfl, hx, rfl, by rw [List.map_nil, List.append_nil]; exact hJ, hsr⟩
      case round =>
        obtain ⟨d, c, hdc, hc, rfl, hJd, hsx⟩ := hrel
        clear hJ hsr q
        by_cases hc0 : c = 0
        · subst hc0
          gi_wp2
          go_roundw
          case rel => exact ⟨k + 1, by omega, by go_num, by rw [numsTo_succ, hdc, bl_zero, List.append_nil]; exact hJd, hsx⟩
          case measure => simp [intOf]; omega
        · have hc1 : (c : Int) ≠ 0 := by omega
          obtain ⟨s1, s2, s3⟩ := bl_step c hc hc0
          have hlen := part_lt bs k hlt d _ _ (hdc.trans (congrArg (d ++ ·) s1))
          have hdc2 : bl (bs.getD k 0) = (d ++ [Lib.trailingZeros8 c]) ++ bl (c &&& (c - 1)) := by rw [hdc, s1]; simp
          have hm2 : numsTo bs k ++ d.map (numOf k) ++ [numOf k (Lib.trailingZeros8 c)] = numsTo bs k ++ (d ++ [Lib.trailingZeros8 c]).map (numOf k) := by simp
          have hpre := part_prefix bs k hlt _ _ hdc2
          rw [← hm2] at hpre
          have hb1 : (c : Int) - 1 = ((c - 1 : Nat) : Int) := by omega
          have hband := u8_and c (c - 1) hc (by omega)
          have H8 := Lib.hid hband
          clear hband
          obtain ⟨fn, tmps, assign, body, hy, hR⟩ := hY _ (numOf k (Lib.trailingZeros8 c)) wr hJd hlen
          have s3' : ((Lib.trailingZeros8 c : Nat) : Int) < 8 := by omega
          have s4' : (0 : Int) ≤ ((Lib.trailingZeros8 c : Nat) : Int) := Int.natCast_nonneg _
          have hc2 : (1 : Int) ≤ (c : Int) := by omega
          have hc3 : (c : Int) < 256 := by omega
          generalize ht : Lib.trailingZeros8 c = t at *
          unfold numOf at hy
          have H1 := Lib.hid hdc
          have H2 := Lib.hid hdc2
          have H3 := Lib.hid hm2
          have H4 := Lib.hid hpre
          have H5 := Lib.hid hlen
          have H6 := Lib.hid s1
          have H7 := Lib.hid s2
          clear hdc hdc2 hm2 hpre hlen s1 s2
          gi_wp2_with fail
          refine ⟨trivial, (fun h => by cases h), ?_⟩
          refine (callsIn_wide.2 (tz_call c hc _)).mono ?_
          rintro e W1 ⟨rfl, rfl⟩
          rw [ht]
          gi_wp2
          refine ⟨(fun h => by cases h), hR.mono ?_⟩
          rintro e W3 (⟨rfl, hJ3, hk3⟩ | ⟨rfl, hJx3⟩)
          · gi_wp2
            go_roundw
            case rel => exact ⟨_, _, H2.out, Nat.lt_of_lt_of_le H7.out (by omega), by rw [H8.out], by rw [← H3.out]; exact hJ3, hsx.kept hk3⟩
            case measure =>
              rw [H8.out]
              show (((c &&& (c - 1) : Nat) : Int)).toNat < ((c : Nat) : Int).toNat
              rw [Int.toNat_natCast, Int.toNat_natCast]
              exact H7.out
          · gi_wp2
            refine bodyPost_ret (results_none rfl _ _ _) rfl ?_
            exact ⟨⟨_, rfl⟩, .inr ⟨_, H4.out, hJx3⟩⟩
    · obtain rfl : k = bs.length := by omega
      gi_wp2
      go_end0
      exact ⟨⟨_, rfl⟩, .inl hJ⟩
end Go.Proofs.Ytgkeifjnnpcleaa
