/- Heap's laws: the reference's heap, a list that is looked through; Find. -/
import Derived.Test.YtgcncimeedoplaaZa
namespace Go.Proofs.Ytgcncimeedoplaa
open Go.RowKit Go.Maps

/-- The reference's heap: a block with two rows. -/
abbrev RefL (p : Nat) (u v : Value) (m : List Th) (l : List Own) : List Own :=
  CellsO p #[u, v] 39 :: RowO 3 1 u m.length (cellsI (m.map Th.id)) :: RowO 28 4 v m.length (flatK m) :: l
theorem Sep.shape {W : World} {B : Nat} {l1 l2 : List Own} {e : TypeId} {size n : Nat} {v : Value} {xs : List Value} (h : Sep W B (l1 ++ RowO e size v n xs :: l2)) :
    ∃ r cap, v = .slice r n cap ∧ (r = none ∧ n = 0 ∧ cap = 0 ∨ ∃ g, r = some ⟨g, 0, none⟩) := by
  rcases h.own.2 with ⟨e, hn⟩ | ⟨g, cap, cur, e, _⟩
  · subst hn; exact ⟨none, 0, e, .inl ⟨rfl, rfl, rfl⟩⟩
  · exact ⟨_, cap, e, .inr ⟨g, rfl⟩⟩
theorem ids_at {m : List Th} {i : Nat} (h : i < m.length) : (cellsI (m.map Th.id))[i]? = some (.int .i64 (atT m i).id) := by
  rw [cellsI_at (by simpa using h)]
  simp [atT, List.getD_eq_getElem?_getD, h]
/-- The place of a thing. -/
def FindP (m : List Th) (x r : Int) : Prop := r = -1 ∧ findT m x = none ∨ ∃ k : Nat, r = k ∧ k < m.length ∧ (atT m k).id = x ∧ findT m x = some (atT m k)
theorem find_at : ∀ (m : List Th) (x : Int) (k : Nat), k < m.length → (∀ j, j < k → (atT m j).id ≠ x) → (atT m k).id = x → findT m x = some (atT m k)
  | [], _, k, h, _, _ => by simp at h
  | t :: m, x, 0, _, _, h => by
    have e : t.id = x := by simpa [atT] using h
    simp [findT, atT, e]
  | t :: m, x, k + 1, h, h1, h2 => by
    have e : t.id ≠ x := by simpa [atT] using h1 0 (by omega)
    have ih := find_at m x k (by simpa using h) (fun j hj => by simpa [atT] using h1 (j + 1) (by omega)) (by simpa [atT] using h2)
    unfold findT at ih ⊢
    rw [List.find?_cons, decide_eq_false e]
    simpa [atT] using ih
theorem find_not {m : List Th} {x : Int} (h : ∀ j, j < m.length → (atT m j).id ≠ x) : findT m x = none :=
  findT_none fun t ht e => by
    obtain ⟨j, hj, rfl⟩ := mem_atT ht
    exact h j hj e

set_option maxRecDepth 100000 in
set_option maxHeartbeats 4000000 in
theorem find_ref {w : World} {B : Nat} {p : Nat} {u v : Value} {m : List Th} {l : List Own} (x : Int) (h : Sep w B (RefL p u v m l)) (hm : m.length ≤ 1000) :
    Calls Try.prog 22 #[.pointer (some ⟨p, 0, none⟩), .int .i64 x] w fun e w' => ∃ r : Int, e = .returned (.int .i64 r) ∧ FindP m x r ∧ Below w.heap.size w w' := by
  obtain ⟨rc, _⟩ := Sep.cells (l1 := []) h
  obtain ⟨r, cap, rfl, hr⟩ := Sep.shape (l1 := [CellsO p #[u, v] 39]) h
  have c0 : w.cell? ⟨p, 0, none⟩ = some (.slice r m.length cap) := by simp [World.cell?, rc]
  have hA := bl0 w
  have HS := Lib.hid h
  clear rc h
  go_enter Try.func22, Try.ntmps22
  go_wp2
  go_loopw [5] (fun i wr => ∃ k : Nat, k ≤ m.length ∧ i = .int .i64 k ∧ Hid (∀ j, j < k → (atT m j).id ≠ x) ∧ Below w.heap.size w wr) (fun i _ => m.length - (intOf i).toNat)
  case atStart => exact ⟨0, Nat.zero_le _, rfl, Lib.hid (fun j hj => by omega), hA⟩
  case round =>
    obtain ⟨k, hk, rfl, HK, hAr⟩ := hrel
    have d0 := cell_later hAr c0
    clear hA
    by_cases hlt : k < m.length
    · have hlI : (k : Int) < (m.length : Int) := by omega
      have hk0 : (0 : Int) ≤ (k : Int) := by omega
      have hk1 : (k : Int) ≤ 1000 := by omega
      obtain ⟨g, rfl⟩ : ∃ g, r = some ⟨g, 0, none⟩ := by
        rcases hr with ⟨_, e, _⟩ | h
        · omega
        · exact h
      obtain ⟨hrow, _, _, _, _⟩ := Sep.row (l1 := [CellsO p #[.slice (some ⟨g, 0, none⟩) m.length cap, v] 39]) HS.out
      have y := cell_later hAr (hrow _ _ (ids_at hlt))
      clear hrow
      by_cases he : (atT m k).id = x
      · have HF := Lib.hid (find_at m x k hlt HK.out he)
        have HE := Lib.hid he
        rw [he] at y
        have hxx : (x == x) = true := by simp
        clear he
        have HA := Lib.hid hAr
        clear hAr
        go_wp2
        go_ret
        exact ⟨_, rfl, .inr ⟨k, rfl, hlt, HE.out, HF.out⟩, HA.out⟩
      · have HE : Hid (∀ j, j < k + 1 → (atT m j).id ≠ x) := Lib.hid (fun j hj => by
          by_cases e : j = k
          · rw [e]; exact he
          · exact HK.out j (by omega))
        obtain ⟨z, hz⟩ : ∃ z, (atT m k).id = z := ⟨_, rfl⟩
        rw [hz] at he y
        have hxx : (z == x) = false := by rw [beq_eq_false_iff_ne]; exact he
        clear he hz
        go_wp2
        go_roundw
        case rel => exact ⟨k + 1, by omega, by go_num, HE, hAr⟩
        case measure => simp [intOf]; omega
    · have hge : (m.length : Int) ≤ (k : Int) := by omega
      obtain rfl : k = m.length := by omega
      have HA := Lib.hid hAr
      clear hAr hlt hk
      go_wp2
      go_ret
      exact ⟨_, rfl, .inl ⟨rfl, find_not HK.out⟩, HA.out⟩
end Go.Proofs.Ytgcncimeedoplaa
