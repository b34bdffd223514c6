/- Gates: Between, whatever the arguments; the laws' helpers; the chapter's example. -/
import Derived.Test.YtbdfjdipjacamaaDoorQd
namespace Go.Proofs.YtbdfjdipjacamaaDoor
open Go.RowKit

theorem brd_on {W H S a b : Int} (hx : brdX W H S a b = 0) : ∀ p ∈ brdP W H S a b, onB W H p.1 = true ∧ onB W H p.2 = true := by
  have hx2 := hx
  unfold brdX at hx2
  by_cases h1 : plcX W H S (min a b) = 0
  case neg => rw [if_pos h1] at hx2; exact absurd hx2 h1
  rw [if_neg (fun h => h h1)] at hx2
  by_cases h2 : plcX W H S (max a b) = 0
  case neg => rw [if_pos h2] at hx2; exact absurd hx2 h2
  rw [if_neg (fun h => h h2)] at hx2
  have hs : sideP W H S (min a b) (max a b) ≠ 0 := fun h => by rw [if_pos h] at hx2; cases hx2
  clear hx2
  obtain ⟨hr, d0, d1⟩ := plcX_yes.1 h1
  obtain ⟨p1, p2, p3, p4, _⟩ := plc_in hr d0 d1
  unfold brdP
  rw [if_pos hx]
  have key : ∀ d, (d = 1 ∨ d = 2) → toP W H S (plcP W S (min a b)) d = true → ∀ p ∈ prsP W H S (plcP W S (min a b)) d, onB W H p.1 = true ∧ onB W H p.2 = true := by
    intro d hd ht p hp
    unfold prsP at hp
    rw [List.mem_map] at hp
    obtain ⟨k, hk, rfl⟩ := hp
    rw [List.mem_range] at hk
    exact prs_on hr p1 p2 p3 p4 hd ht hk
  unfold sideP at hs ⊢
  by_cases c1 : toP W H S (plcP W S (min a b)) 1 = true ∧ numP W S (stepI (plcP W S (min a b)) 1) = max a b
  · rw [if_pos c1]
    exact key 1 (.inl rfl) c1.1
  · rw [if_neg c1] at hs ⊢
    by_cases c2 : toP W H S (plcP W S (min a b)) 2 = true ∧ numP W S (stepI (plcP W S (min a b)) 2) = max a b
    · rw [if_pos c2]
      exact key 2 (.inr rfl) c2.1
    · rw [if_neg c2] at hs
      exact absurd rfl hs
theorem prsP_le {W H S : Int} {p : IC} {d : Int} (hr : rightP W H S = true) (h1 : 0 ≤ p.1) (h2 : p.1 < lieN W S) (h3 : 0 ≤ p.2) (h4 : p.2 < lieN H S) : (prsP W H S p d).length ≤ 16 := by
  obtain ⟨⟨t1, t2, t3, t4⟩, ⟨t5, t6, t7, t8⟩, t9, t10⟩ := bx_bd hr h1 h2 h3 h4
  simp only [prsP, List.length_map, List.length_range, prsN]
  split <;> omega
theorem brdP_le (W H S a b : Int) : (brdP W H S a b).length ≤ 16 := by
  unfold brdP
  split
  · rename_i hx
    unfold brdX at hx
    by_cases h1 : plcX W H S (min a b) = 0
    case neg => rw [if_pos h1] at hx; exact absurd hx h1
    obtain ⟨hr, d0, d1⟩ := plcX_yes.1 h1
    obtain ⟨p1, p2, p3, p4, _⟩ := plc_in hr d0 d1
    exact prsP_le hr p1 p2 p3 p4
  · simp
theorem chk_of {A B n : Int} (h : chkF A B n = 0) : mayB A B = true ∧ n = A * B := by
  unfold chkF at h
  cases hm : mayB A B
  · rw [hm, if_neg (by decide)] at h; cases h
  · rw [hm, if_pos rfl] at h
    by_cases hn : n = A * B
    · exact ⟨rfl, hn⟩
    · rw [if_neg hn] at h; cases h
theorem fit_of {A B n X Y : Int} (h : fitX A B n X Y = 0) : chkF A B n = 0 ∧ X = A ∧ Y = B := by
  unfold fitX at h
  by_cases h0 : chkF A B n = 0
  · rw [if_neg (fun hh => hh h0)] at h
    by_cases h1 : X = A ∧ Y = B
    · exact ⟨h0, h1⟩
    · rw [if_neg h1] at h; cases h
  · rw [if_pos h0] at h; exact absurd h h0

/-- What Between tells. -/
def btwX (A B n X Y S a b : Int) : Int := if fitX A B n X Y ≠ 0 then fitX A B n X Y else brdX A B S a b
def btwL (A B : Int) (zs : List Int) (X Y S a b : Int) : List (IC × IC) := if btwX A B zs.length X Y S a b = 0 then gatesL (opnF A zs) (brdP A B S a b) else []
def BtwR (x : Int) (L : List (IC × IC)) (w : World) (e : Ending) (w' : World) : Prop := ∃ a cap, e = .returned (.tuple #[.slice a L.length cap, .int .i64 x]) ∧ L.length ≤ cap ∧ RowPP w' a L ∧ Below w.heap.size w w'
set_option maxRecDepth 100000 in
set_option maxHeartbeats 4000000 in
theorem btwn_any (A B : Int) (a : Option Addr) (cap : Nat) (zs : List Int) (X Y S i j : Int) (w : World) (hr : RowH w a zs) (hs : Stp w) :
    Calls Tryd.prog 56 #[.agg #[.int .i64 A, .int .i64 B, .slice a zs.length cap], .agg #[.int .i64 X, .int .i64 Y, .int .i64 S], .int .i64 i, .int .i64 j] w (BtwR (btwX A B zs.length X Y S i j) (btwL A B zs X Y S i j) w) := by
  have hA := bl0 w
  obtain ⟨x, hx⟩ : ∃ x, btwX A B zs.length X Y S i j = x := ⟨_, rfl⟩
  obtain ⟨L, hL⟩ : ∃ L, btwL A B zs X Y S i j = L := ⟨_, rfl⟩
  rw [hx, hL]
  unfold btwL at hL
  rw [hx] at hL
  unfold btwX at hx
  have H1 := Lib.hid (fun w => gfits_any A B a zs.length cap X Y S w)
  by_cases h0 : fitX A B zs.length X Y = 0
  · obtain ⟨hc, rfl, rfl⟩ := fit_of h0
    obtain ⟨hm, hn⟩ := chk_of hc
    rw [if_neg (fun h => h h0)] at hx
    rw [h0] at H1
    have H2 := Lib.hid (fun w hs => border_p X Y S i j w hs)
    unfold BorR at H2
    rw [hx] at H2
    by_cases hx0 : x = 0
    · subst hx0
      rw [if_pos rfl] at hL
      have hon := brd_on hx
      have hle := brdP_le X Y S i j
      obtain ⟨l, hl⟩ : ∃ l, brdP X Y S i j = l := ⟨_, rfl⟩
      rw [hl] at hon hle hL H2
      have H3 := Lib.hid (fun b cap2 w (hr : RowH w a zs) (hrow : RowPP w b l) (hc : l.length ≤ cap2) => along_any X Y a cap zs b cap2 l w hr hn hrow hc (by omega) hon)
      rw [hL] at H3
      clear hc hm hn h0 hx hL hl hon
      unfold GatR at H3
      go_enter Tryd.func56, Tryd.ntmps56
      go_wp2_with fail
      refine (H1.out _).mono ?_
      rintro e w1 ⟨rfl, hb⟩
      have hk : Below w.heap.size w w1 := by first | exact hb | exact bl_tr (bl_al (bl0 _) _) hb | exact bl_tr (bl_dr (bl_al (bl0 _) _)) hb | exact bl_tr (bl_al (bl_al (bl0 _) _) _) hb | exact bl_tr (bl_dr (bl_al (bl_al (bl0 _) _) _)) hb | exact bl_tr (bl_al (bl_al (bl_al (bl0 _) _) _) _) hb | exact bl_tr (bl_dr (bl_al (bl_al (bl_al (bl0 _) _) _) _)) hb | exact bl_tr (bl_al (bl_al (bl_al (bl_al (bl0 _) _) _) _) _) hb | exact bl_tr (bl_dr (bl_al (bl_al (bl_al (bl_al (bl0 _) _) _) _) _)) hb | exact bl_tr (bl_al (bl_al (bl_al (bl_al (bl_al (bl0 _) _) _) _) _) _) hb | exact bl_tr (bl_dr (bl_al (bl_al (bl_al (bl_al (bl_al (bl0 _) _) _) _) _) _)) hb | exact bl_tr (bl_al (bl_al (bl_al (bl_al (bl_al (bl_al (bl0 _) _) _) _) _) _) _) hb | exact bl_tr (bl_dr (bl_al (bl_al (bl_al (bl_al (bl_al (bl_al (bl0 _) _) _) _) _) _) _)) hb | exact bl_tr (bl_dr (bl0 _)) hb
      replace hA := bl_tr hA hk
      have k0 := cell_later hb (v := .int .i64 X) (a := ⟨w.heap.size, 0, none⟩) (by simp [go_sem])
      have k1 := cell_later hb (v := .int .i64 Y) (a := ⟨w.heap.size, 1, none⟩) (by simp [go_sem])
      have k2 := cell_later hb (v := .slice a zs.length cap) (a := ⟨w.heap.size, 2, none⟩) (by simp [go_sem])
      have p0 := cell_later hb (v := .int .i64 X) (a := ⟨w.heap.size + 1, 0, none⟩) (by simp [go_sem])
      have p1 := cell_later hb (v := .int .i64 Y) (a := ⟨w.heap.size + 1, 1, none⟩) (by simp [go_sem])
      have p2 := cell_later hb (v := .int .i64 S) (a := ⟨w.heap.size + 1, 2, none⟩) (by simp [go_sem])
      clear hb hk
      have zk0 := blk_lt k0
      have zk1 := blk_lt k1
      have zk2 := blk_lt k2
      have zp0 := blk_lt p0
      have zp1 := blk_lt p1
      have zp2 := blk_lt p2
      go_wp2_with fail
      refine (H2.out _ (hs.below (by first | exact hA | exact (bl_al hA _) | exact (bl_dr (bl_al hA _)) | exact (bl_al (bl_al hA _) _) | exact (bl_dr (bl_al (bl_al hA _) _)) | exact (bl_al (bl_al (bl_al hA _) _) _) | exact (bl_dr (bl_al (bl_al (bl_al hA _) _) _)) | exact (bl_al (bl_al (bl_al (bl_al hA _) _) _) _) | exact (bl_dr (bl_al (bl_al (bl_al (bl_al hA _) _) _) _)) | exact (bl_al (bl_al (bl_al (bl_al (bl_al hA _) _) _) _) _) | exact (bl_dr (bl_al (bl_al (bl_al (bl_al (bl_al hA _) _) _) _) _)) | exact (bl_al (bl_al (bl_al (bl_al (bl_al (bl_al hA _) _) _) _) _) _) | exact (bl_dr (bl_al (bl_al (bl_al (bl_al (bl_al (bl_al hA _) _) _) _) _) _)) | exact (bl_dr hA)))).mono ?_
      rintro e w2 ⟨ba, bc, rfl, hrw, hb, hcl⟩
      have hk : Below w1.heap.size w1 w2 := by first | exact hb | exact bl_tr (bl_al (bl0 _) _) hb | exact bl_tr (bl_dr (bl_al (bl0 _) _)) hb | exact bl_tr (bl_al (bl_al (bl0 _) _) _) hb | exact bl_tr (bl_dr (bl_al (bl_al (bl0 _) _) _)) hb | exact bl_tr (bl_al (bl_al (bl_al (bl0 _) _) _) _) hb | exact bl_tr (bl_dr (bl_al (bl_al (bl_al (bl0 _) _) _) _)) hb | exact bl_tr (bl_al (bl_al (bl_al (bl_al (bl0 _) _) _) _) _) hb | exact bl_tr (bl_dr (bl_al (bl_al (bl_al (bl_al (bl0 _) _) _) _) _)) hb | exact bl_tr (bl_al (bl_al (bl_al (bl_al (bl_al (bl0 _) _) _) _) _) _) hb | exact bl_tr (bl_dr (bl_al (bl_al (bl_al (bl_al (bl_al (bl0 _) _) _) _) _) _)) hb | exact bl_tr (bl_al (bl_al (bl_al (bl_al (bl_al (bl_al (bl0 _) _) _) _) _) _) _) hb | exact bl_tr (bl_dr (bl_al (bl_al (bl_al (bl_al (bl_al (bl_al (bl0 _) _) _) _) _) _) _)) hb | exact bl_tr (bl_dr (bl0 _)) hb
      replace hA := bl_tr hA hk
      replace k0 := cell_later hk k0
      replace k1 := cell_later hk k1
      replace k2 := cell_later hk k2
      clear hb hk
      have zk0 := blk_lt k0
      have zk1 := blk_lt k1
      have zk2 := blk_lt k2
      go_wp2_with fail
      refine (H3.out _ _ _ (hr.below (by first | exact hA | exact (bl_al hA _) | exact (bl_dr (bl_al hA _)) | exact (bl_al (bl_al hA _) _) | exact (bl_dr (bl_al (bl_al hA _) _)) | exact (bl_al (bl_al (bl_al hA _) _) _) | exact (bl_dr (bl_al (bl_al (bl_al hA _) _) _)) | exact (bl_al (bl_al (bl_al (bl_al hA _) _) _) _) | exact (bl_dr (bl_al (bl_al (bl_al (bl_al hA _) _) _) _)) | exact (bl_al (bl_al (bl_al (bl_al (bl_al hA _) _) _) _) _) | exact (bl_dr (bl_al (bl_al (bl_al (bl_al (bl_al hA _) _) _) _) _)) | exact (bl_al (bl_al (bl_al (bl_al (bl_al (bl_al hA _) _) _) _) _) _) | exact (bl_dr (bl_al (bl_al (bl_al (bl_al (bl_al (bl_al hA _) _) _) _) _) _)) | exact (bl_dr hA))) hrw hcl).mono ?_
      rintro e w3 ⟨ca, cc, rfl, hcm, hrw3, hb⟩
      have hk : Below w2.heap.size w2 w3 := by first | exact hb | exact bl_tr (bl_al (bl0 _) _) hb | exact bl_tr (bl_dr (bl_al (bl0 _) _)) hb | exact bl_tr (bl_al (bl_al (bl0 _) _) _) hb | exact bl_tr (bl_dr (bl_al (bl_al (bl0 _) _) _)) hb | exact bl_tr (bl_al (bl_al (bl_al (bl0 _) _) _) _) hb | exact bl_tr (bl_dr (bl_al (bl_al (bl_al (bl0 _) _) _) _)) hb | exact bl_tr (bl_al (bl_al (bl_al (bl_al (bl0 _) _) _) _) _) hb | exact bl_tr (bl_dr (bl_al (bl_al (bl_al (bl_al (bl0 _) _) _) _) _)) hb | exact bl_tr (bl_al (bl_al (bl_al (bl_al (bl_al (bl0 _) _) _) _) _) _) hb | exact bl_tr (bl_dr (bl_al (bl_al (bl_al (bl_al (bl_al (bl0 _) _) _) _) _) _)) hb | exact bl_tr (bl_al (bl_al (bl_al (bl_al (bl_al (bl_al (bl0 _) _) _) _) _) _) _) hb | exact bl_tr (bl_dr (bl_al (bl_al (bl_al (bl_al (bl_al (bl_al (bl0 _) _) _) _) _) _) _)) hb | exact bl_tr (bl_dr (bl0 _)) hb
      replace hA := bl_tr hA hk
      clear hb hk
      have HR := Lib.hid hrw3
      clear hrw3 hrw
      go_wp2
      go_ret2
      exact ⟨ca, cc, rfl, hcm, HR.out, hA⟩
    · rw [if_neg hx0] at hL
      subst hL
      have hx1 : (x != 0) = true := by rw [bne_iff_ne]; exact hx0
      obtain ⟨l, hl⟩ : ∃ l, brdP X Y S i j = l := ⟨_, rfl⟩
      rw [hl] at H2
      clear hc hm hn h0 hx hl hx0
      go_enter Tryd.func56, Tryd.ntmps56
      go_wp2_with fail
      refine (H1.out _).mono ?_
      rintro e w1 ⟨rfl, hb⟩
      have hk : Below w.heap.size w w1 := by first | exact hb | exact bl_tr (bl_al (bl0 _) _) hb | exact bl_tr (bl_dr (bl_al (bl0 _) _)) hb | exact bl_tr (bl_al (bl_al (bl0 _) _) _) hb | exact bl_tr (bl_dr (bl_al (bl_al (bl0 _) _) _)) hb | exact bl_tr (bl_al (bl_al (bl_al (bl0 _) _) _) _) hb | exact bl_tr (bl_dr (bl_al (bl_al (bl_al (bl0 _) _) _) _)) hb | exact bl_tr (bl_al (bl_al (bl_al (bl_al (bl0 _) _) _) _) _) hb | exact bl_tr (bl_dr (bl_al (bl_al (bl_al (bl_al (bl0 _) _) _) _) _)) hb | exact bl_tr (bl_al (bl_al (bl_al (bl_al (bl_al (bl0 _) _) _) _) _) _) hb | exact bl_tr (bl_dr (bl_al (bl_al (bl_al (bl_al (bl_al (bl0 _) _) _) _) _) _)) hb | exact bl_tr (bl_al (bl_al (bl_al (bl_al (bl_al (bl_al (bl0 _) _) _) _) _) _) _) hb | exact bl_tr (bl_dr (bl_al (bl_al (bl_al (bl_al (bl_al (bl_al (bl0 _) _) _) _) _) _) _)) hb | exact bl_tr (bl_dr (bl0 _)) hb
      replace hA := bl_tr hA hk
      have p0 := cell_later hb (v := .int .i64 X) (a := ⟨w.heap.size + 1, 0, none⟩) (by simp [go_sem])
      have p1 := cell_later hb (v := .int .i64 Y) (a := ⟨w.heap.size + 1, 1, none⟩) (by simp [go_sem])
      have p2 := cell_later hb (v := .int .i64 S) (a := ⟨w.heap.size + 1, 2, none⟩) (by simp [go_sem])
      clear hb hk
      have zp0 := blk_lt p0
      have zp1 := blk_lt p1
      have zp2 := blk_lt p2
      go_wp2_with fail
      refine (H2.out _ (hs.below (by first | exact hA | exact (bl_al hA _) | exact (bl_dr (bl_al hA _)) | exact (bl_al (bl_al hA _) _) | exact (bl_dr (bl_al (bl_al hA _) _)) | exact (bl_al (bl_al (bl_al hA _) _) _) | exact (bl_dr (bl_al (bl_al (bl_al hA _) _) _)) | exact (bl_al (bl_al (bl_al (bl_al hA _) _) _) _) | exact (bl_dr (bl_al (bl_al (bl_al (bl_al hA _) _) _) _)) | exact (bl_al (bl_al (bl_al (bl_al (bl_al hA _) _) _) _) _) | exact (bl_dr (bl_al (bl_al (bl_al (bl_al (bl_al hA _) _) _) _) _)) | exact (bl_al (bl_al (bl_al (bl_al (bl_al (bl_al hA _) _) _) _) _) _) | exact (bl_dr (bl_al (bl_al (bl_al (bl_al (bl_al (bl_al hA _) _) _) _) _) _)) | exact (bl_dr hA)))).mono ?_
      rintro e w2 ⟨ba, bc, rfl, hrw, hb, hcl⟩
      have hk : Below w1.heap.size w1 w2 := by first | exact hb | exact bl_tr (bl_al (bl0 _) _) hb | exact bl_tr (bl_dr (bl_al (bl0 _) _)) hb | exact bl_tr (bl_al (bl_al (bl0 _) _) _) hb | exact bl_tr (bl_dr (bl_al (bl_al (bl0 _) _) _)) hb | exact bl_tr (bl_al (bl_al (bl_al (bl0 _) _) _) _) hb | exact bl_tr (bl_dr (bl_al (bl_al (bl_al (bl0 _) _) _) _)) hb | exact bl_tr (bl_al (bl_al (bl_al (bl_al (bl0 _) _) _) _) _) hb | exact bl_tr (bl_dr (bl_al (bl_al (bl_al (bl_al (bl0 _) _) _) _) _)) hb | exact bl_tr (bl_al (bl_al (bl_al (bl_al (bl_al (bl0 _) _) _) _) _) _) hb | exact bl_tr (bl_dr (bl_al (bl_al (bl_al (bl_al (bl_al (bl0 _) _) _) _) _) _)) hb | exact bl_tr (bl_al (bl_al (bl_al (bl_al (bl_al (bl_al (bl0 _) _) _) _) _) _) _) hb | exact bl_tr (bl_dr (bl_al (bl_al (bl_al (bl_al (bl_al (bl_al (bl0 _) _) _) _) _) _) _)) hb | exact bl_tr (bl_dr (bl0 _)) hb
      replace hA := bl_tr hA hk
      clear hb hk
      clear hrw hcl
      go_wp2
      go_ret2
      exact ⟨none, 0, rfl, Nat.le_refl _, .inl rfl, hA⟩
  · rw [if_pos h0] at hx
    have hx0 : x ≠ 0 := by rw [← hx]; exact h0
    rw [if_neg hx0] at hL
    subst hL
    rw [hx] at H1
    have hx1 : (x != 0) = true := by rw [bne_iff_ne]; exact hx0
    clear h0 hx hx0
    go_enter Tryd.func56, Tryd.ntmps56
    go_wp2_with fail
    refine (H1.out _).mono ?_
    rintro e w1 ⟨rfl, hb⟩
    have hk : Below w.heap.size w w1 := by first | exact hb | exact bl_tr (bl_al (bl0 _) _) hb | exact bl_tr (bl_dr (bl_al (bl0 _) _)) hb | exact bl_tr (bl_al (bl_al (bl0 _) _) _) hb | exact bl_tr (bl_dr (bl_al (bl_al (bl0 _) _) _)) hb | exact bl_tr (bl_al (bl_al (bl_al (bl0 _) _) _) _) hb | exact bl_tr (bl_dr (bl_al (bl_al (bl_al (bl0 _) _) _) _)) hb | exact bl_tr (bl_al (bl_al (bl_al (bl_al (bl0 _) _) _) _) _) hb | exact bl_tr (bl_dr (bl_al (bl_al (bl_al (bl_al (bl0 _) _) _) _) _)) hb | exact bl_tr (bl_al (bl_al (bl_al (bl_al (bl_al (bl0 _) _) _) _) _) _) hb | exact bl_tr (bl_dr (bl_al (bl_al (bl_al (bl_al (bl_al (bl0 _) _) _) _) _) _)) hb | exact bl_tr (bl_al (bl_al (bl_al (bl_al (bl_al (bl_al (bl0 _) _) _) _) _) _) _) hb | exact bl_tr (bl_dr (bl_al (bl_al (bl_al (bl_al (bl_al (bl_al (bl0 _) _) _) _) _) _) _)) hb | exact bl_tr (bl_dr (bl0 _)) hb
    replace hA := bl_tr hA hk
    clear hb hk
    go_wp2
    go_ret2
    exact ⟨none, 0, rfl, Nat.le_refl _, .inl rfl, hA⟩
end Go.Proofs.YtbdfjdipjacamaaDoor
