/- What stands between blanks in a string, as an iterator: its contract. -/
import Derived.Test.YthnpoeobieninaaDoorVb
namespace Go.Proofs.YthnpoeobieninaaDoor
open Go.RowKit Go.Shelf
attribute [local go_sem] Oper.semAt_some

/-- What stands between blanks. -/
def piecesF : List UInt8 → List (List UInt8)
  | [] => [[]]
  | b :: r => if b = 32 then [] :: piecesF r else match piecesF r with
    | [] => [[b]]
    | x :: xs => (b :: x) :: xs

theorem piecesF_no : ∀ (l : List UInt8), Lib.indexByte l 32 < 0 → piecesF l = [l]
  | [], _ => rfl
  | b :: r, h => by
    have hg := indexByte_ge r 32
    simp only [Lib.indexByte] at h
    split at h
    · omega
    · rename_i hb
      have hb' : b ≠ 32 := by simpa using hb
      split at h
      · rename_i h1
        have h1' : Lib.indexByte r 32 = -1 := by simpa using h1
        rw [piecesF, if_neg hb', piecesF_no r (by omega)]
      · rename_i h1
        have : Lib.indexByte r 32 ≠ -1 := by simpa using h1
        omega
theorem piecesF_yes : ∀ (l : List UInt8) (i : Nat), Lib.indexByte l 32 = i → i < l.length ∧ piecesF l = l.take i :: piecesF (l.drop (i + 1))
  | [], i, h => by exfalso; simp only [Lib.indexByte] at h; omega
  | b :: r, i, h => by
    have hg := indexByte_ge r 32
    simp only [Lib.indexByte] at h
    split at h
    · rename_i hb
      have hb' : b = 32 := by simpa using hb
      obtain rfl : i = 0 := by omega
      subst hb'
      simp [piecesF]
    · rename_i hb
      have hb' : b ≠ 32 := by simpa using hb
      split at h
      · omega
      · rename_i h1
        have h1' : Lib.indexByte r 32 ≠ -1 := by simpa using h1
        obtain ⟨j, rfl⟩ : ∃ j, i = j + 1 := ⟨i - 1, by omega⟩
        obtain ⟨h1, h2⟩ := piecesF_yes r j (by omega)
        refine ⟨by simp; omega, ?_⟩
        rw [piecesF, if_neg hb', h2]
        simp

set_option maxHeartbeats 1000000 in
theorem split_mk (s p : ByteArray) (w : World) :
    Calls Tryd.prog 36 #[.string s, .string p] w fun e w' => e = .returned (.func (.func 59) #[] #[.pointer (some ⟨w.heap.size + 1, 0, none⟩), .pointer (some ⟨w.heap.size, 0, none⟩), .pointer (some ⟨w.heap.size + 1 + 1, 0, none⟩)]) ∧ w' = ((w.alloc (.cells #[.string s] 9)).alloc (.cells #[.string p] 9)).alloc (.cells #[.int .i64 0] 3) := by
  go_enter Tryd.func36, Tryd.ntmps36
  go_wp2
  go_ret
  exact ⟨rfl, rfl⟩

set_option maxRecDepth 100000 in
set_option maxHeartbeats 4000000 in
theorem split1_in (l p : Nat) (s : ByteArray) (J Jx : List (List UInt8) → World → Prop) (W : World) (hJ : AbP p 3 J)
    (hY : ∀ pre x W1, J pre W1 → pre ++ [x] <+: piecesF s.data.toList → YieldAt Fence.wide 0 Tryd.prog l #[.string ⟨x.toArray⟩] W1 fun e W' =>
      (e = .returned (.bool true) ∧ J (pre ++ [x]) W' ∧ KP p 3 W1 W') ∨ (e = .returned (.bool false) ∧ Jx (pre ++ [x]) W'))
    (hs : Boxed W p 9 (.string s)) (hp : Boxed W (p + 1) 9 (.string ⟨#[32]⟩)) (hq : Boxed W (p + 1 + 1) 3 (.int .i64 0)) (hsz : s.size ≤ 140737488355328) (h0 : J [] W) :
    CallsIn Fence.wide 10 Tryd.prog 59 #[.func (.yield l) #[] #[], .pointer (some ⟨p + 1, 0, none⟩), .pointer (some ⟨p, 0, none⟩), .pointer (some ⟨p + 1 + 1, 0, none⟩)] W fun e W' => (∃ v, e = .returned v) ∧
      (J (piecesF s.data.toList) W' ∨ ∃ q, q <+: piecesF s.data.toList ∧ Jx q W') := by
  have cp := hp.cell
  refine callsIn_of_wp Tryd.func59 rfl trivial ?_ rfl
  simp only [Tryd.ntmps59, List.size_toArray, List.length_cons, List.length_nil, Nat.reduceAdd, Nat.reduceSub, Array.replicate_succ, Array.replicate_zero, List.push_toArray, List.append_toArray, List.nil_append, List.cons_append]
  gi_wp2
  gi_loopw [] (fun wr => ∃ (pre : List (List UInt8)) (t : ByteArray), Boxed wr p 9 (.string t) ∧ Boxed wr (p + 1) 9 (.string ⟨#[32]⟩) ∧ Boxed wr (p + 1 + 1) 3 (.int .i64 0) ∧ pre ++ piecesF t.data.toList = piecesF s.data.toList ∧ t.size ≤ s.size ∧ J pre wr) (fun wr => strAt wr p)
  case atStart => exact ⟨[], s, hs, hp, hq, rfl, Nat.le_refl _, h0⟩
  case round =>
    clear cp
    obtain ⟨pre, t, hb, hbp, hbq, hpre, hle, hJr⟩ := hrel
    have c0 := hb.cell
    have f0 := hb.frozen
    have c1 := hbp.cell
    have c2 := hbq.cell
    gi_wp2_with fail
    refine ⟨trivial, (callsIn_wide.2 (Tryd.strings_Index_one t 32 _)).mono ?_⟩
    rintro e w1 ⟨rfl, rfl⟩
    obtain ⟨i, hi⟩ : ∃ i, Lib.indexByte t.data.toList 32 = i := ⟨_, rfl⟩
    rw [hi]
    by_cases hneg : i < 0
    · have hlf := piecesF_no _ (by omega : Lib.indexByte t.data.toList 32 < 0)
      obtain ⟨fn, tmps, assign, body, hy, hR⟩ := yieldAt_wide 9 (hY pre t.data.toList w1 hJr (by rw [← hpre, hlf]; exact List.prefix_rfl))
      rw [show (⟨t.data.toList.toArray⟩ : ByteArray) = t by simp] at hy
      gi_wp2
      refine hR.mono ?_
      rintro e W3 (⟨rfl, hJ3, _⟩ | ⟨rfl, hJx3⟩)
      all_goals
        gi_wp2
        go_end0
      · exact ⟨⟨_, rfl⟩, .inl (by rw [← hpre, hlf]; exact hJ3)⟩
      · exact ⟨⟨_, rfl⟩, .inr ⟨_, by rw [← hpre, hlf]; exact List.prefix_rfl, hJx3⟩⟩
    · obtain ⟨k, rfl⟩ : ∃ k : Nat, i = k := ⟨i.toNat, by omega⟩
      obtain ⟨hk, hlf⟩ := piecesF_yes _ k hi
      have hk2 : (k : Int) + 1 ≤ t.size := by rw [Array.length_toList] at hk; have : k < t.size := hk; omega
      have hk3 : (0 : Int) ≤ (k : Int) := by omega
      clear hi
      obtain ⟨e0, _⟩ := cut_at t k
      obtain ⟨_, e1⟩ := cut_at t (k + 1)
      obtain ⟨fn, tmps, assign, body, hy, hR⟩ := yieldAt_wide 9 (hY pre (t.data.toList.take k) w1 hJr (by rw [← hpre, hlf]; simp))
      rw [show (⟨(t.data.toList.take k).toArray⟩ : ByteArray) = t.extract 0 k by rw [← e0]] at hy
      gi_wp2
      refine hR.mono ?_
      rintro e W3 (⟨rfl, hJ3, hk3⟩ | ⟨rfl, hJx3⟩)
      · have hb3 := hk3.boxed (Nat.le_refl _) (by omega) hb
        have hp3 := hk3.boxed (by omega) (by omega) hbp
        have hq3 := hk3.boxed (by omega) (by omega) hbq
        have d0 := hb3.cell
        have g0 := hb3.frozen
        have d1 := hp3.cell
        have hj := hJ _ _ _ _ hJ3 (grownBy_setCell' _ p (.string (t.extract (k + 1) t.size))) (fun r e => by cases e; exact ⟨by omega, by omega, sameKind_set _ _ _ _⟩)
        gi_wp2
        go_roundw
        case rel => exact ⟨_, _, hb3.set _, hp3.other (by omega) _, hq3.other (by omega) _, by rw [← hpre, hlf, e1]; simp, by rw [size_cut]; omega, hj⟩
        case measure => rw [strAt_of (hb3.set _).cell, strAt_of c0, size_cut]; omega
      · gi_wp2
        refine bodyPost_ret (results_none rfl _ _ _) rfl ?_
        exact ⟨⟨_, rfl⟩, .inr ⟨_, by rw [← hpre, hlf]; simp, hJx3⟩⟩

theorem iter_pieces (p : Nat) (s : ByteArray) (w : World) (hs : Boxed w p 9 (.string s)) (hp : Boxed w (p + 1) 9 (.string ⟨#[32]⟩)) (hq : Boxed w (p + 1 + 1) 3 (.int .i64 0)) (hsz : s.size ≤ 140737488355328) :
    IterP p 3 59 #[.pointer (some ⟨p + 1, 0, none⟩), .pointer (some ⟨p, 0, none⟩), .pointer (some ⟨p + 1 + 1, 0, none⟩)] (fun x : List UInt8 => #[.string ⟨x.toArray⟩]) (piecesF s.data.toList) w :=
  fun l J Jx W hW hJ _ hY h0 => split1_in l p s J Jx W hJ hY ((hW.block _ (Array.getElem?_eq_some_iff.1 hs).1).trans hs) ((hW.block _ (Array.getElem?_eq_some_iff.1 hp).1).trans hp) ((hW.block _ (Array.getElem?_eq_some_iff.1 hq).1).trans hq) hsz h0
end Go.Proofs.YthnpoeobieninaaDoor
