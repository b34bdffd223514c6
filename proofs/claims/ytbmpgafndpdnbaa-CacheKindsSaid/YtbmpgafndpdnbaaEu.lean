/- Cache: of nil; a clone among other things. -/
import Derived.Test.YtbmpgafndpdnbaaEt
import Derived.Test.YtbmpgafndpdnbaaEs
namespace Go.Proofs.Ytbmpgafndpdnbaa
open Go.RowKit Go.Maps

set_option maxRecDepth 100000 in
theorem peek_n1 (k : Int) (w : World) :
    Calls Try.prog 14 #[.pointer none, .int .i64 k] w fun e w' => e = .returned (.tuple #[.int .i64 0, .bool false]) ∧ Below w.heap.size w w' := by
  go_enter Try.func14, Try.ntmps14
  go_wp2_with fail
  refine (place_n1 k w).mono ?_
  rintro e w2 ⟨rfl, hb⟩
  have HB := Lib.hid hb
  clear hb
  go_wp2
  go_ret2
  exact ⟨rfl, HB.out⟩
set_option maxRecDepth 100000 in
theorem get_n1 (k : Int) (w : World) :
    Calls Try.prog 12 #[.pointer none, .int .i64 k] w fun e w' => e = .returned (.tuple #[.int .i64 0, .bool false]) ∧ Below w.heap.size w w' := by
  go_enter Try.func12, Try.ntmps12
  go_wp2_with fail
  refine (place_n1 k w).mono ?_
  rintro e w2 ⟨rfl, hb⟩
  have HB := Lib.hid hb
  clear hb
  go_wp2
  go_ret2
  exact ⟨rfl, HB.out⟩
set_option maxRecDepth 100000 in
theorem len_n1 (w : World) : Calls Try.prog 11 #[.pointer none] w fun e w' => e = .returned (.int .i64 0) ∧ Below w.heap.size w w' := by
  have HB := Lib.hid (bl0 w)
  go_enter Try.func11, Try.ntmps11
  go_wp2
  go_ret
  exact ⟨rfl, HB.out⟩
set_option maxRecDepth 100000 in
theorem keys_n1 (w : World) : Calls Try.prog 23 #[.pointer none] w fun e w' => e = .returned (.slice none 0 0) ∧ Below w.heap.size w w' := by
  have HB := Lib.hid (bl0 w)
  go_enter Try.func23, Try.ntmps23
  go_wp2
  go_ret
  exact ⟨rfl, HB.out⟩
set_option maxRecDepth 100000 in
theorem clone_n1 (w : World) : Calls Try.prog 35 #[.pointer none] w fun e w' => e = .returned (.pointer none) ∧ Below w.heap.size w w' := by
  have HB := Lib.hid (bl0 w)
  go_enter Try.func35, Try.ntmps35
  go_wp2
  go_ret
  exact ⟨rfl, HB.out⟩
theorem clone_s1 {w : World} {B : Nat} {l1 l2 : List Own} {p : Nat} {r : Int} {m : List IT} (h : Sep w B (l1 ++ CO Try.c1 p r m :: l2)) (hm : m.length ≤ 1000) :
    Calls Try.prog 35 #[.pointer (some ⟨p, 0, none⟩)] w fun e w' => ∃ q, e = .returned (.pointer (some ⟨q, 0, none⟩)) ∧ Sep w' B ((l1 ++ CO Try.c1 p r m :: l2) ++ [CO Try.c1 q r m]) ∧ Below w.heap.size w w' := by
  obtain ⟨S, h1, _⟩ := h.at
  exact (clone_c1 p r m S w h1 hm).mono fun _ _ ⟨he, ht⟩ => ⟨_, he, (h.made ht).1, (h.made ht).2⟩
/-- The row of keys that was told. -/
abbrev KO (g : Nat) (m : List IT) : Own := RowO 3 1 (.slice (some ⟨g, 0, none⟩) m.length m.length) m.length (cellsI (m.map Prod.fst))
theorem keys_k1 {w : World} {B : Nat} {l1 l2 : List Own} {p : Nat} {r : Int} {m : List IT} (h : Sep w B (l1 ++ CO Try.c1 p r m :: l2)) (hm : m.length ≤ 1000) :
    Calls Try.prog 23 #[.pointer (some ⟨p, 0, none⟩)] w fun e w' => ∃ g, e = .returned (.slice (some ⟨g, 0, none⟩) m.length m.length) ∧ Sep w' B (l1 ++ CO Try.c1 p r m :: (l2 ++ [KO g m])) ∧ Below w.heap.size w w' :=
  (keys_s1 h hm).mono fun _ _ ⟨g, he, hs, hb⟩ => ⟨g, he, by simpa using hs, hb⟩
theorem KO.row {w : World} {B : Nat} {l1 l2 : List Own} {g : Nat} {m : List IT} (h : Sep w B (l1 ++ KO g m :: l2)) : RowI w (some ⟨g, 0, none⟩) (m.map Prod.fst) := h.rowI (List.length_map _)
/-- Two rows of keys of one cache are the same. -/
theorem ints_ko {w : World} {g1 g2 : Nat} {m : List IT} (hm : m.length ≤ 1000) (h1 : RowI w (some ⟨g1, 0, none⟩) (m.map Prod.fst)) (h2 : RowI w (some ⟨g2, 0, none⟩) (m.map Prod.fst)) :
    Calls Try.prog 22 #[.slice (some ⟨g1, 0, none⟩) m.length m.length, .slice (some ⟨g2, 0, none⟩) m.length m.length] w fun e w' => e = .returned (.bool true) ∧ Below w.heap.size w w' := by
  have h := ints_any (some ⟨g1, 0, none⟩) (some ⟨g2, 0, none⟩) m.length m.length (m.map Prod.fst) (m.map Prod.fst) w (by rw [List.length_map]; omega) (by rw [List.length_map]; omega) h1 h2
  rw [decide_eq_true rfl, List.length_map] at h
  exact h
/-- What the puts left. -/
structure PutI (r : Int) (ls : List AT) (k : Nat) (m : List IT) : Prop where
  fit : Fit r m
  vals : ∀ x ∈ m, x.2 = lastK x.1 (ls.take k)
theorem PutI.put {r : Int} {ls : List AT} {k : Nat} {m : List IT} {z : AT} (h : PutI r ls k m) (hr : 1 ≤ r) (hz : ls[k]? = some z) : PutI r ls (k + 1) (putM r z.k z.v m) := by
  refine ⟨h.fit.put hr, fun x hx => ?_⟩
  rw [put_but h.fit hr] at hx
  rw [lastK_take hz]
  rcases List.mem_cons.1 hx with rfl | hx
  · simp
  · have hx2 := List.mem_filter.1 (List.mem_of_mem_take hx)
    have hne : ¬ z.k = x.1 := fun e => by have := hx2.2; simp at this; exact this e.symm
    rw [if_neg hne]
    exact h.vals x hx2.1
theorem RowA.take {W : World} {a : Option Addr} {ls : List AT} (h : RowA W a ls) (n : Nat) : RowA W a (ls.take n) := by
  rcases h with e | ⟨b9, o9, e, h⟩
  · exact .inl (by rw [e]; simp)
  · refine .inr ⟨b9, o9, e, fun i z hz => h i z ?_⟩
    rw [List.getElem?_take] at hz
    split at hz
    · exact hz
    · cases hz
end Go.Proofs.Ytbmpgafndpdnbaa
