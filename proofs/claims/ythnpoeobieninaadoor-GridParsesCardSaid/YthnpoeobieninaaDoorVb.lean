/- The lines of a string, as an iterator: its contract. -/
import Derived.Test.YthnpoeobieninaaDoorVa
import Derived.Test.YthnpoeobieninaaDoorShelf
namespace Go.Proofs.YthnpoeobieninaaDoor
open Go.RowKit Go.Shelf
attribute [local go_sem] Oper.semAt_some

/-- The lines of a text, each with its line feed; the last one may lack it. -/
def linesF : List UInt8 → List (List UInt8)
  | [] => []
  | b :: r => if b = 10 then [10] :: linesF r else match linesF r with
    | [] => [[b]]
    | x :: xs => (b :: x) :: xs

theorem indexByte_ge : ∀ (l : List UInt8) (c : UInt8), -1 ≤ Lib.indexByte l c
  | [], _ => by simp [Lib.indexByte]
  | b :: l, c => by
    have := indexByte_ge l c
    simp only [Lib.indexByte]
    split
    · omega
    · split
      · omega
      · omega

theorem linesF_no : ∀ (l : List UInt8), Lib.indexByte l 10 < 0 → l ≠ [] → linesF l = [l]
  | [], _, h => absurd rfl h
  | b :: r, h, _ => by
    have hg := indexByte_ge r 10
    simp only [Lib.indexByte] at h
    split at h
    · omega
    · rename_i hb
      have hb' : b ≠ 10 := by simpa using hb
      split at h
      · rename_i h1
        have h1' : Lib.indexByte r 10 = -1 := by simpa using h1
        cases r with
        | nil => simp [linesF, hb']
        | cons c t =>
          have ih := linesF_no (c :: t) (by omega) (by simp)
          rw [linesF, if_neg hb', ih]
      · rename_i h1
        have : Lib.indexByte r 10 ≠ -1 := by simpa using h1
        omega
theorem linesF_yes : ∀ (l : List UInt8) (i : Nat), Lib.indexByte l 10 = i → i < l.length ∧ linesF l = l.take (i + 1) :: linesF (l.drop (i + 1))
  | [], i, h => by exfalso; simp only [Lib.indexByte] at h; omega
  | b :: r, i, h => by
    have hg := indexByte_ge r 10
    simp only [Lib.indexByte] at h
    split at h
    · rename_i hb
      have hb' : b = 10 := by simpa using hb
      obtain rfl : i = 0 := by omega
      subst hb'
      simp [linesF]
    · rename_i hb
      have hb' : b ≠ 10 := by simpa using hb
      split at h
      · omega
      · rename_i h1
        have h1' : Lib.indexByte r 10 ≠ -1 := by simpa using h1
        obtain ⟨j, rfl⟩ : ∃ j, i = j + 1 := ⟨i - 1, by omega⟩
        obtain ⟨h1, h2⟩ := linesF_yes r j (by omega)
        refine ⟨by simp; omega, ?_⟩
        rw [linesF, if_neg hb', h2]
        simp

theorem cut_at (t : ByteArray) (k : Nat) : (t.extract 0 k).data.toList = t.data.toList.take k ∧ (t.extract k t.size).data.toList = t.data.toList.drop k := by
  refine ⟨?_, Lib.extract_to_end t k⟩
  simp [ByteArray.data_extract, Array.toList_extract, List.extract_eq_take_drop]
theorem size_cut (t : ByteArray) (k : Nat) : (t.extract k t.size).size = t.size - k := by simp [ByteArray.size_extract]
theorem boxed_drew {W : World} {p : Nat} {t : TypeId} {v : Value} (h : Boxed W p t v) : Boxed W.drew p t v := h

/-- How long a string in a box is. -/
def strAt (W : World) (p : Nat) : Nat := match W.cell? ⟨p, 0, none⟩ with | some (.string t) => t.size | _ => 0
theorem strAt_of {W : World} {p : Nat} {t : ByteArray} (h : W.cell? ⟨p, 0, none⟩ = some (.string t)) : strAt W p = t.size := by unfold strAt; rw [h]

set_option maxHeartbeats 1000000 in
theorem lines_mk (s : ByteArray) (w : World) :
    Calls Tryd.prog 34 #[.string s] w fun e w' => e = .returned (.func (.func 47) #[] #[.pointer (some ⟨w.heap.size, 0, none⟩)]) ∧ w' = w.alloc (.cells #[.string s] 9) := by
  go_enter Tryd.func34, Tryd.ntmps34
  go_wp2
  go_ret
  exact ⟨rfl, rfl⟩

set_option maxRecDepth 100000 in
set_option maxHeartbeats 4000000 in
theorem lines1_in (l p : Nat) (s : ByteArray) (J Jx : List (List UInt8) → World → Prop) (W : World) (hJ : AbP p 1 J)
    (hY : ∀ pre x W1, J pre W1 → pre ++ [x] <+: linesF s.data.toList → YieldAt Fence.wide 0 Tryd.prog l #[.string ⟨x.toArray⟩] W1 fun e W' =>
      (e = .returned (.bool true) ∧ J (pre ++ [x]) W' ∧ KP p 1 W1 W') ∨ (e = .returned (.bool false) ∧ Jx (pre ++ [x]) W'))
    (hs : Boxed W p 9 (.string s)) (hsz : s.size ≤ 140737488355328) (h0 : J [] W) :
    CallsIn Fence.wide 10 Tryd.prog 47 #[.func (.yield l) #[] #[], .pointer (some ⟨p, 0, none⟩)] W fun e W' => (∃ v, e = .returned v) ∧
      (J (linesF s.data.toList) W' ∨ ∃ q, q <+: linesF s.data.toList ∧ Jx q W') := by
  refine callsIn_of_wp Tryd.func47 rfl trivial ?_ rfl
  simp only [Tryd.ntmps47, List.size_toArray, List.length_cons, List.length_nil, Nat.reduceAdd, Nat.reduceSub, Array.replicate_succ, Array.replicate_zero, List.push_toArray, List.append_toArray, List.nil_append, List.cons_append]
  gi_wp2
  gi_loopw [] (fun wr => ∃ (pre : List (List UInt8)) (t : ByteArray), Boxed wr p 9 (.string t) ∧ pre ++ linesF t.data.toList = linesF s.data.toList ∧ t.size ≤ s.size ∧ J pre wr) (fun wr => strAt wr p)
  case atStart => exact ⟨[], s, hs, rfl, Nat.le_refl _, h0⟩
  case round =>
    obtain ⟨pre, t, hb, hpre, hle, hJr⟩ := hrel
    have c0 := hb.cell
    have f0 := hb.frozen
    by_cases hz : t.size = 0
    · have hz' : (t.size : Int) ≤ 0 := by omega
      have ht : t.data.toList = [] := by apply List.eq_nil_of_length_eq_zero; rw [Array.length_toList]; exact hz
      rw [ht, linesF, List.append_nil] at hpre
      subst hpre
      gi_wp2
      go_end0
      exact ⟨⟨_, rfl⟩, .inl hJr⟩
    · have hz' : (0 : Int) < (t.size : Int) := by omega
      gi_wp2_with fail
      refine ⟨trivial, (callsIn_wide.2 (Tryd.strings_IndexByte t 10 _)).mono ?_⟩
      rintro e w1 ⟨rfl, rfl⟩
      obtain ⟨i, hi⟩ : ∃ i, Lib.indexByte t.data.toList (Int.toNat 10).toUInt8 = i := ⟨_, rfl⟩
      rw [hi]
      replace hi : Lib.indexByte t.data.toList 10 = i := hi
      by_cases hneg : i < 0
      · have hlf := linesF_no _ (by omega) (show t.data.toList ≠ [] by intro h; apply hz; have := congrArg List.length h; rw [Array.length_toList] at this; exact this)
        obtain ⟨fn, tmps, assign, body, hy, hR⟩ := yieldAt_wide 9 (hY pre t.data.toList (w1.setCell ⟨p, 0, none⟩ (.string ⟨#[]⟩)) (hJ _ _ _ _ hJr (grownBy_setCell' _ _ _) (fun r e => by cases e; exact ⟨by omega, by omega, sameKind_set _ _ _ _⟩)) (by rw [← hpre, hlf]; exact List.prefix_rfl))
        rw [show (⟨t.data.toList.toArray⟩ : ByteArray) = t by simp] at hy
        gi_wp2
        refine hR.mono ?_
        rintro e W3 (⟨rfl, hJ3, hk3⟩ | ⟨rfl, hJx3⟩)
        · have hb3 := hk3.boxed (Nat.le_refl _) (by omega) (hb.set (.string ⟨#[]⟩))
          gi_wp2
          go_roundw
          case rel => exact ⟨_, ⟨#[]⟩, hb3, by rw [← hpre, hlf]; simp [linesF], Nat.zero_le _, hJ3⟩
          case measure => rw [strAt_of hb3.cell, strAt_of c0]; show (0 : Nat) < t.size; omega
        · gi_wp2
          refine bodyPost_ret (results_none rfl _ _ _) rfl ?_
          exact ⟨⟨_, rfl⟩, .inr ⟨_, by rw [← hpre, hlf]; exact List.prefix_rfl, hJx3⟩⟩
      · obtain ⟨k, rfl⟩ : ∃ k : Nat, i = k := ⟨i.toNat, by omega⟩
        obtain ⟨hk, hlf⟩ := linesF_yes _ k hi
        have hk2 : (k : Int) + 1 ≤ t.size := by rw [Array.length_toList] at hk; have : k < t.size := hk; omega
        have hk3 : (0 : Int) ≤ (k : Int) := by omega
        clear hi
        obtain ⟨e0, e1⟩ := cut_at t (k + 1)
        have hj := hJ _ _ _ none (hJ _ _ _ _ hJr (grownBy_setCell' _ p (.string (t.extract (k + 1) t.size))) (fun r e => by cases e; exact ⟨by omega, by omega, sameKind_set _ _ _ _⟩)) (grown_of_below (bl_dr (bl0 _))) (fun r e => by cases e)
        obtain ⟨fn, tmps, assign, body, hy, hR⟩ := yieldAt_wide 9 (hY pre (t.data.toList.take (k + 1)) _ hj (by rw [← hpre, hlf]; simp))
        rw [show (⟨(t.data.toList.take (k + 1)).toArray⟩ : ByteArray) = t.extract 0 (k + 1) by rw [← e0]] at hy
        gi_wp2
        gi_region
        all_goals gi_wp2
        refine hR.mono ?_
        rintro e W3 (⟨rfl, hJ3, hk3⟩ | ⟨rfl, hJx3⟩)
        · have hb3 := hk3.boxed (Nat.le_refl _) (by omega) (boxed_drew (hb.set (.string (t.extract (k + 1) t.size))))
          gi_wp2
          go_roundw
          case rel => exact ⟨_, _, hb3, by rw [← hpre, hlf, e1]; simp, by rw [size_cut]; omega, hJ3⟩
          case measure => rw [strAt_of hb3.cell, strAt_of c0, size_cut]; omega
        · gi_wp2
          refine bodyPost_ret (results_none rfl _ _ _) rfl ?_
          exact ⟨⟨_, rfl⟩, .inr ⟨_, by rw [← hpre, hlf]; simp, hJx3⟩⟩

theorem iter_lines (p : Nat) (s : ByteArray) (w : World) (hs : Boxed w p 9 (.string s)) (hsz : s.size ≤ 140737488355328) :
    IterP p 1 47 #[.pointer (some ⟨p, 0, none⟩)] (fun x : List UInt8 => #[.string ⟨x.toArray⟩]) (linesF s.data.toList) w :=
  fun l J Jx W hW hJ _ hY h0 => lines1_in l p s J Jx W hJ hY ((hW.block p (Array.getElem?_eq_some_iff.1 hs).1).trans hs) hsz h0
end Go.Proofs.YthnpoeobieninaaDoor
