/- Package mask: Add and Keep: two sets cut to one another. -/
import Derived.Test.YtgkeifjnnpcleaaKe
import Derived.LoopTactic
namespace Go.Proofs.Ytgkeifjnnpcleaa
open Go.RowKit

/-- The bytes behind k rounds. -/
def cutK (f : Nat → Nat → Nat) (cs ds : List Nat) (k : Nat) : List Nat := joinB f (cs.take k) (ds.take k) ++ cs.drop k
/-- How many bits k rounds have turned. -/
def turnK (f : Nat → Nat → Nat) (cs ds : List Nat) (k : Nat) : Nat := ones (List.zipWith (fun x y => x ^^^ f x y) (cs.take k) (ds.take k))
theorem cutK_len (f : Nat → Nat → Nat) {cs ds : List Nat} (h : cs.length = ds.length) (k : Nat) : (cutK f cs ds k).length = cs.length := by
  unfold cutK
  rw [List.length_append, joinB_len _ (by simp [h])]
  simp
  omega
theorem cutK_zero (f : Nat → Nat → Nat) (cs ds : List Nat) : cutK f cs ds 0 = cs := by simp [cutK, joinB]
theorem cutK_all (f : Nat → Nat → Nat) {cs ds : List Nat} (h : cs.length = ds.length) : cutK f cs ds cs.length = joinB f cs ds := by
  unfold cutK
  rw [List.take_length, h, List.take_length, ← h, List.drop_length, List.append_nil]
theorem cutK_at (f : Nat → Nat → Nat) {cs ds : List Nat} (h : cs.length = ds.length) (k : Nat) (hk : k < cs.length) : (cutK f cs ds k)[k]? = some cs[k] := by
  unfold cutK
  have hl : (joinB f (cs.take k) (ds.take k)).length = k := by rw [joinB_len _ (by simp [h])]; simp; omega
  rw [List.getElem?_append_right (by omega), hl, Nat.sub_self, List.getElem?_drop]
  simp [hk]
theorem cutK_set (f : Nat → Nat → Nat) {cs ds : List Nat} (h : cs.length = ds.length) (k : Nat) (hk : k < cs.length) : (cutK f cs ds k).set k (f cs[k] (ds[k]'(h ▸ hk))) = cutK f cs ds (k + 1) := by
  have hl : (joinB f (cs.take k) (ds.take k)).length = k := by rw [joinB_len _ (by simp [h])]; simp; omega
  unfold cutK
  rw [List.set_append_right _ _ (by omega), hl, Nat.sub_self, List.drop_eq_getElem_cons hk, List.set_cons_zero]
  rw [List.take_succ_eq_append_getElem hk, List.take_succ_eq_append_getElem (h ▸ hk)]
  unfold joinB
  rw [List.zipWith_append (by simp [h])]
  simp
theorem turnK_zero (f : Nat → Nat → Nat) (cs ds : List Nat) : turnK f cs ds 0 = 0 := by simp [turnK, ones]
theorem turnK_succ (f : Nat → Nat → Nat) {cs ds : List Nat} (h : cs.length = ds.length) (k : Nat) (hk : k < cs.length) : turnK f cs ds (k + 1) = turnK f cs ds k + Lib.onesCount (cs[k] ^^^ f cs[k] (ds[k]'(h ▸ hk))) := by
  unfold turnK
  rw [List.take_succ_eq_append_getElem hk, List.take_succ_eq_append_getElem (h ▸ hk), List.zipWith_append (by simp [h])]
  unfold ones
  rw [List.map_append, List.sum_append]
  simp only [List.zipWith_cons_cons, List.zipWith_nil_right, List.map_cons, List.map_nil, List.sum_cons, List.sum_nil, Nat.add_zero]
theorem turnK_room (f : Nat → Nat → Nat) (hf : ∀ a b, a < 256 → b < 256 → f a b < 256) {cs ds : List Nat} (hc : IsBytes cs) (hd : IsBytes ds) (h : cs.length = ds.length) (hl : cs.length ≤ 65536) (k : Nat) (hk : k < cs.length) :
    (turnK f cs ds k : Int) + (Lib.onesCount (cs[k] ^^^ f cs[k] (ds[k]'(h ▸ hk))) : Int) ≤ 600000 ∧ (0 : Int) ≤ (turnK f cs ds k : Int) ∧ (0 : Int) ≤ (Lib.onesCount (cs[k] ^^^ f cs[k] (ds[k]'(h ▸ hk))) : Int) := by
  have hb : IsBytes (List.zipWith (fun x y => x ^^^ f x y) (cs.take (k + 1)) (ds.take (k + 1))) :=
    joinB_bytes (f := fun x y => x ^^^ f x y) (fun a b ha hb => Nat.xor_lt_two_pow (n := 8) ha (hf a b ha hb)) (hc.take _) (hd.take _)
  have hn : (List.zipWith (fun x y => x ^^^ f x y) (cs.take (k + 1)) (ds.take (k + 1))).length ≤ cs.length := by simp; omega
  exact room_arith _ _ _ (Nat.le_trans (Nat.le_of_eq (turnK_succ f h k hk).symm) (Nat.le_trans (ones_le _ hb) (Nat.mul_le_mul_left 8 hn))) hl

theorem or_call (a b : Nat) (ha : a < 256) (hb : b < 256) (w : World) : Calls Try.prog 46 #[.int .u8 (a : Int), .int .u8 (b : Int)] w fun e w' => e = .returned (.int .u8 ((a ||| b : Nat) : Int)) ∧ w = w' := by
  have h := u8_or a b ha hb
  have H := Lib.hid h
  clear h
  go_enter Try.func46, Try.ntmps46
  go_wp2
  go_ret
  exact ⟨ret_int H.out, rfl⟩
theorem and_call (a b : Nat) (ha : a < 256) (hb : b < 256) (w : World) : Calls Try.prog 47 #[.int .u8 (a : Int), .int .u8 (b : Int)] w fun e w' => e = .returned (.int .u8 ((a &&& b : Nat) : Int)) ∧ w = w' := by
  have h := u8_and a b ha hb
  have H := Lib.hid h
  clear h
  go_enter Try.func47, Try.ntmps47
  go_wp2
  go_ret
  exact ⟨ret_int H.out, rfl⟩

theorem MaskAt.put {W : World} {b h : Nat} {X Y : Int} {bs : List Nat} (m : MaskAt W b h X Y bs) (hne : b ≠ h) (k v : Nat) : MaskAt (W.setCell ⟨h, k, none⟩ (.int .u8 (v : Int))) b h X Y (bs.set k v) := by
  refine ⟨(Below.heap_setCell _ _ _ b (show b ≠ h from hne)).trans (by rw [List.length_set]; exact m.1), ?_⟩
  rw [heap_set_same _ _ _ _ _ _ m.2]
  simp [List.map_set]
theorem MaskAt.apart {W : World} {b h g k : Nat} {X Y : Int} {bs : List Nat} (m : MaskAt W b h X Y bs) (h1 : b ≠ g) (h2 : h ≠ g) (u : Value) : MaskAt (W.setCell ⟨g, k, none⟩ u) b h X Y bs :=
  ⟨(Below.heap_setCell _ _ _ b (show b ≠ g from h1)).trans m.1, (Below.heap_setCell _ _ _ h (show h ≠ g from h2)).trans m.2⟩

set_option maxHeartbeats 1600000 in
theorem cut_or (f : Nat → Nat → Nat) (hff : f = fun a b => a ||| b)
    (b h b2 h2 : Nat) (X Y : Int) (cs ds : List Nat) (w : World) (hm : MaskAt w b h X Y cs) (hm2 : MaskAt w b2 h2 X Y ds) (hc : IsBytes cs) (hd : IsBytes ds) (hl : cs.length = ds.length) (hl6 : cs.length ≤ 65536) (n1 : b ≠ h) (n2 : b2 ≠ h) (n3 : h2 ≠ h) :
    Calls Try.prog 45 #[.pointer (some ⟨b, 0, none⟩), .pointer (some ⟨b2, 0, none⟩), .func (.func 46) #[] #[]] w fun e w' => e = .returned (.tuple #[.int .i64 (turnK f cs ds cs.length : Nat), .int .i64 0]) ∧ MaskAt w' b h X Y (joinB f cs ds) ∧ w.grownBy w' (some h) := by
  have hf8 : ∀ a b, a < 256 → b < 256 → f a b < 256 := by subst hff; exact or_lt8
  have hf : ∀ (a b : Nat) (_ : a < 256) (_ : b < 256) (w : World), Calls Try.prog 46 #[.int .u8 (a : Int), .int .u8 (b : Int)] w fun e w' => e = .returned (.int .u8 ((f a b : Nat) : Int)) ∧ w = w' := by subst hff; exact or_call
  clear hff
  have c0 := hm.c0
  have c1 := hm.c1
  have c2 := hm.c2
  have d0 := hm2.c0
  have d1 := hm2.c1
  have z0 := hm.lt.1
  have hl2 : (cs.length : Int) ≤ 65536 := by omega
  go_enter Try.func45, Try.ntmps45
  go_wp2
  go_quiet (fail)
  go_wp2
  have hB := bl_drn w nq
  have hm' := hm.below hB
  have hm2' := hm2.below hB
  have hg' := grown_weak (grown_of_below hB) (some h)
  clear hB c0 c1 c2 d0 d1 hm hm2
  go_loopw [8, 32] (fun n i wr => ∃ k : Nat, k ≤ cs.length ∧ i = .int .i64 k ∧ n = .int .i64 (turnK f cs ds k : Nat) ∧ MaskAt wr b h X Y (cutK f cs ds k) ∧ MaskAt wr b2 h2 X Y ds ∧ w.grownBy wr (some h)) (fun _ i _ => cs.length - (intOf i).toNat)
  case atStart => exact ⟨0, Nat.zero_le _, rfl, by rw [turnK_zero]; rfl, by rw [cutK_zero]; exact hm', hm2', hg'⟩
  case round =>
    obtain ⟨k, hk, rfl, rfl, ha, hb, hgr⟩ := hrel
    have c2 := ha.c2
    have d2 := hb.c2
    rw [cutK_len f hl] at c2
    clear hm' hm2' hg'
    by_cases hlt : k < cs.length
    · have hltd : k < ds.length := hl ▸ hlt
      have q := ha.at (cutK_at f hl k hlt)
      have q2 := hb.at (List.getElem?_eq_getElem hltd)
      have fz := ha.fz (k := k)
      have hx : cs[k] < 256 := hc _ (List.getElem_mem hlt)
      have hy : ds[k] < 256 := hd _ (List.getElem_mem hltd)
      have hv := hf8 _ _ hx hy
      have hxor := u8_xor cs[k] (f cs[k] ds[k]) hx hv
      have hxb : cs[k] ^^^ f cs[k] ds[k] < 256 := Nat.xor_lt_two_pow (n := 8) hx hv
      have HS := Lib.hid (turnK_succ f hl k hlt)
      have HC := Lib.hid (cutK_set f hl k hlt)
      obtain ⟨hle2, hle3, hle4⟩ := turnK_room f hf8 hc hd hl hl6 k hlt
      have hlt2 : (k : Int) < (cs.length : Int) := by omega
      have hlt3 : (k : Int) < (ds.length : Int) := by omega
      have hk0 : (0 : Int) ≤ (k : Int) := by omega
      go_wp2_with fail
      refine (hf _ _ hx hy _).mono ?_
      rintro e w' ⟨rfl, rfl⟩
      go_wp2_with fail
      refine (ones_call _ hxb _).mono ?_
      rintro e w' ⟨rfl, rfl⟩
      go_wp2
      go_roundw
      case rel =>
        refine ⟨k + 1, by omega, by go_num, by rw [HS.out]; go_num, ?_, hb.apart n2 n3 _, grown_tr hgr (grown_set _ _ _ _)⟩
        have hp := ha.put n1 k (f cs[k] ds[k])
        rw [HC.out] at hp
        exact hp
      case measure => simp [intOf]; omega
    · obtain rfl : k = cs.length := by omega
      go_wp2
      go_ret2
      rw [cutK_all f hl] at ha
      exact ⟨rfl, ha, hgr⟩
set_option maxHeartbeats 1600000 in
theorem cut_and (f : Nat → Nat → Nat) (hff : f = fun a b => a &&& b)
    (b h b2 h2 : Nat) (X Y : Int) (cs ds : List Nat) (w : World) (hm : MaskAt w b h X Y cs) (hm2 : MaskAt w b2 h2 X Y ds) (hc : IsBytes cs) (hd : IsBytes ds) (hl : cs.length = ds.length) (hl6 : cs.length ≤ 65536) (n1 : b ≠ h) (n2 : b2 ≠ h) (n3 : h2 ≠ h) :
    Calls Try.prog 45 #[.pointer (some ⟨b, 0, none⟩), .pointer (some ⟨b2, 0, none⟩), .func (.func 47) #[] #[]] w fun e w' => e = .returned (.tuple #[.int .i64 (turnK f cs ds cs.length : Nat), .int .i64 0]) ∧ MaskAt w' b h X Y (joinB f cs ds) ∧ w.grownBy w' (some h) := by
  have hf8 : ∀ a b, a < 256 → b < 256 → f a b < 256 := by subst hff; exact and_lt8
  have hf : ∀ (a b : Nat) (_ : a < 256) (_ : b < 256) (w : World), Calls Try.prog 47 #[.int .u8 (a : Int), .int .u8 (b : Int)] w fun e w' => e = .returned (.int .u8 ((f a b : Nat) : Int)) ∧ w = w' := by subst hff; exact and_call
  clear hff
  have c0 := hm.c0
  have c1 := hm.c1
  have c2 := hm.c2
  have d0 := hm2.c0
  have d1 := hm2.c1
  have z0 := hm.lt.1
  have hl2 : (cs.length : Int) ≤ 65536 := by omega
  go_enter Try.func45, Try.ntmps45
  go_wp2
  go_quiet (fail)
  go_wp2
  have hB := bl_drn w nq
  have hm' := hm.below hB
  have hm2' := hm2.below hB
  have hg' := grown_weak (grown_of_below hB) (some h)
  clear hB c0 c1 c2 d0 d1 hm hm2
  go_loopw [8, 32] (fun n i wr => ∃ k : Nat, k ≤ cs.length ∧ i = .int .i64 k ∧ n = .int .i64 (turnK f cs ds k : Nat) ∧ MaskAt wr b h X Y (cutK f cs ds k) ∧ MaskAt wr b2 h2 X Y ds ∧ w.grownBy wr (some h)) (fun _ i _ => cs.length - (intOf i).toNat)
  case atStart => exact ⟨0, Nat.zero_le _, rfl, by rw [turnK_zero]; rfl, by rw [cutK_zero]; exact hm', hm2', hg'⟩
  case round =>
    obtain ⟨k, hk, rfl, rfl, ha, hb, hgr⟩ := hrel
    have c2 := ha.c2
    have d2 := hb.c2
    rw [cutK_len f hl] at c2
    clear hm' hm2' hg'
    by_cases hlt : k < cs.length
    · have hltd : k < ds.length := hl ▸ hlt
      have q := ha.at (cutK_at f hl k hlt)
      have q2 := hb.at (List.getElem?_eq_getElem hltd)
      have fz := ha.fz (k := k)
      have hx : cs[k] < 256 := hc _ (List.getElem_mem hlt)
      have hy : ds[k] < 256 := hd _ (List.getElem_mem hltd)
      have hv := hf8 _ _ hx hy
      have hxor := u8_xor cs[k] (f cs[k] ds[k]) hx hv
      have hxb : cs[k] ^^^ f cs[k] ds[k] < 256 := Nat.xor_lt_two_pow (n := 8) hx hv
      have HS := Lib.hid (turnK_succ f hl k hlt)
      have HC := Lib.hid (cutK_set f hl k hlt)
      obtain ⟨hle2, hle3, hle4⟩ := turnK_room f hf8 hc hd hl hl6 k hlt
      have hlt2 : (k : Int) < (cs.length : Int) := by omega
      have hlt3 : (k : Int) < (ds.length : Int) := by omega
      have hk0 : (0 : Int) ≤ (k : Int) := by omega
      go_wp2_with fail
      refine (hf _ _ hx hy _).mono ?_
      rintro e w' ⟨rfl, rfl⟩
      go_wp2_with fail
      refine (ones_call _ hxb _).mono ?_
      rintro e w' ⟨rfl, rfl⟩
      go_wp2
      go_roundw
      case rel =>
        refine ⟨k + 1, by omega, by go_num, by rw [HS.out]; go_num, ?_, hb.apart n2 n3 _, grown_tr hgr (grown_set _ _ _ _)⟩
        have hp := ha.put n1 k (f cs[k] ds[k])
        rw [HC.out] at hp
        exact hp
      case measure => simp [intOf]; omega
    · obtain rfl : k = cs.length := by omega
      go_wp2
      go_ret2
      rw [cutK_all f hl] at ha
      exact ⟨rfl, ha, hgr⟩
end Go.Proofs.Ytgkeifjnnpcleaa
