/- FogMerges: the reference's Merge where all fits. -/
import Derived.Test.YtccokdfkmppohaaBe
import Derived.Test.YtccokdfkmppohaaQ1
namespace Go.Proofs.Ytccokdfkmppohaa
open Go.RowKit Go.Shelf

theorem flatR_set (rs : List Int) (j : Nat) (z : Int) : (flatR rs).set j (.int .i64 z) = flatR (rs.set j z) := by simp [flatR, List.map_set]
section
variable {W : World} {B g h n cap : Nat} {X Y : Int} {rs : List Int} {k : Int}
/-- One number is stored. -/
theorem RFogAt.put (m : RFogAt W B g X Y (.slice (some ⟨h, 0, none⟩) n cap) rs k) (hn : n = rs.length) (j : Nat) (z : Int) :
    RFogAt (W.setCell ⟨h, j, none⟩ (.int .i64 z)) B g X Y (.slice (some ⟨h, 0, none⟩) n cap) (rs.set j z) k ∧ KeptT h h W (W.setCell ⟨h, j, none⟩ (.int .i64 z)) := by
  have hne : g ≠ h := fun e => m.ne (by rw [e]; rfl)
  have o := m.2.2
  rw [← hn] at o
  obtain ⟨o1, o2⟩ := o.stored j (.int .i64 z)
  refine ⟨⟨m.1, (o2.block g m.lt (fun e => hne (by simpa using e))).trans m.2.1, ?_⟩, ⟨o2.os, o2.tape, o2.output, o2.size, fun k hk => absurd hk (Nat.not_lt_zero _)⟩, fun k h1 h2 _ => o2.block k h1 (fun e => h2 (by simpa using e))⟩
  rw [flatR_set] at o1
  rw [List.length_set, ← hn]
  exact o1
theorem RFogAt.at (m : RFogAt W B g X Y (.slice (some ⟨h, 0, none⟩) n cap) rs k) {j : Nat} (hj : j < rs.length) : W.cell? ⟨h, j, none⟩ = some (.int .i64 (rs.getD j 0)) := by
  have a0 := m.2.2.cells (g := h) rfl j (.int .i64 (rs.getD j 0)) (flatR_at (by simp [List.getD_eq_getElem?_getD, hj]))
  rw [addr_add, Nat.zero_add] at a0
  exact a0
theorem RFogAt.fh (m : RFogAt W B g X Y (.slice (some ⟨h, 0, none⟩) n cap) rs k) (hn : n = rs.length) (j : Nat) : W.frozen? ⟨h, j, none⟩ = false := by
  have o := m.2.2
  rw [← hn] at o
  exact o.frozenAt j
theorem RFogAt.hlt (m : RFogAt W B g X Y (.slice (some ⟨h, 0, none⟩) n cap) rs k) : B ≤ h ∧ h < W.heap.size := m.2.2.lt h rfl
theorem RFogAt.neq {q : Nat} {bs : List Bool} (m : RFogAt W B g X Y (.slice (some ⟨h, 0, none⟩) n cap) rs k) (hq : RowQ W q bs) : q ≠ h := by
  rintro rfl
  unfold RowQ at hq
  rcases m.2.2.2 with ⟨e, _⟩ | ⟨g', cap', cur, e, _, hg, _⟩
  · cases e
  · cases e
    rw [hq] at hg
    simp at hg
theorem RFogAt.kept {W' : World} {row : Option Nat} {v : Value} (m : RFogAt W B g X Y v rs k) (hg : W.grownBy W' row) (h1 : some g ≠ row) (h2 : row = none ∨ v.ownBlock ≠ row) : RFogAt W' B g X Y v rs k := by
  refine ⟨m.1, (hg.block g m.lt h1).trans m.2.1, m.2.2.kept hg ?_⟩
  rcases h2 with h | h
  · cases hv : v.ownBlock with
    | none => exact .inl rfl
    | some j => exact .inr (by rw [h]; simp)
  · exact .inr h
end

theorem RFogAt.ver {W : World} {B g : Nat} {X Y : Int} {v : Value} {rs : List Int} {k : Int} (m : RFogAt W B g X Y v rs k) (k' : Int) : RFogAt (W.setCell ⟨g, 3, none⟩ (.int .i64 k')) B g X Y v rs k' ∧ KeptT g g W (W.setCell ⟨g, 3, none⟩ (.int .i64 k')) := by
  have hg := grown_set W g 3 (.int .i64 k')
  refine ⟨⟨m.1, ?_, m.2.2.kept hg (.inr m.ne)⟩, ⟨hg.os, hg.tape, hg.output, hg.size, fun k hk => absurd hk (Nat.not_lt_zero _)⟩, fun k h1 h2 _ => hg.block k h1 (fun e => h2 (by simpa using e))⟩
  rw [heap_set_same _ _ _ _ _ _ m.2.1]
  rfl
theorem KeptT.widen {g h : Nat} {A B : World} (x : KeptT h h A B) : KeptT g h A B := ⟨x.1, fun k a _ c => x.2 k a c c⟩
theorem KeptT.widen2 {g h : Nat} {A B : World} (x : KeptT g g A B) : KeptT g h A B := ⟨x.1, fun k a b _ => x.2 k a b b⟩

/-- What the reference's loop holds. -/
def RMI (w1 : World) (C g h n cap : Nat) (A B k : Int) (fs : List Int) (bs : List Bool) (rs : List Int) (j : Nat) (o : Value) (W : World) : Prop :=
  KeptT h h w1 W ∧ RFogAt W C g A B (.slice (some ⟨h, 0, none⟩) n cap) (mergeN A fs bs rs j).1 k ∧ W.ownsRow w1.heap.size 26 2 o (mergeN A fs bs rs j).2.length (flatC (mergeN A fs bs rs j).2)
theorem RMI.below {w1 W W' : World} {C g h n cap : Nat} {A B k : Int} {fs : List Int} {bs : List Bool} {rs : List Int} {j : Nat} {o : Value} (m : RMI w1 C g h n cap A B k fs bs rs j o W) (hb : Below W.heap.size W W') : RMI w1 C g h n cap A B k fs bs rs j o W' :=
  ⟨m.1.trans (keptT_of_below hb), m.2.1.below hb, own_later m.2.2 hb⟩

/-- What the reference's Merge tells and leaves, where all fits. -/
def RMR (w : World) (C g h n cap : Nat) (A B k : Int) (fs : List Int) (bs : List Bool) (rs : List Int) (e : Ending) (w' : World) : Prop :=
      ∃ (a' : Option Addr) (cap' : Nat), e = .returned (.tuple #[.slice a' (mergeN A fs bs rs n).2.length cap', .int .i64 0]) ∧ RowC w' a' (mergeN A fs bs rs n).2 ∧ (∀ gb o, a' = some ⟨gb, o, none⟩ → w.heap.size ≤ gb) ∧
        RFogAt w' C g A B (.slice (some ⟨h, 0, none⟩) n cap) (mergeN A fs bs rs n).1 (if (mergeN A fs bs rs n).2 = [] then k else k + 1) ∧ KeptT g h w w'
set_option maxRecDepth 100000 in
set_option maxHeartbeats 12800000 in
theorem rmerge_yes (C g h cap : Nat) (A B k : Int) (rs : List Int) (a : Option Addr) (q c d n : Nat) (fs : List Int) (bs : List Bool) (w : World) (hx : chkF A B (n : Int) = 0) (hmay : mayB A B = true) (hl : (n : Int) = A * B) (hfl : fs.length = n) (hrl : rs.length = n) (hbl : bs.length = n)
    (hf : RFogAt w C g A B (.slice (some ⟨h, 0, none⟩) n cap) rs k) (hrf : RowH w a fs) (hu : AllH fs) (hah : ∀ gb o, a = some ⟨gb, o, none⟩ → gb ≠ h) (hq : RowQ w q bs) (hk : k ≤ 1048576) (hk0 : 0 ≤ k) :
    Calls Try.prog 10 #[.pointer (some ⟨g, 0, none⟩), .agg #[.int .i64 A, .int .i64 B, .slice a n c], .agg #[.int .i64 A, .int .i64 B], .slice (some ⟨q, 0, none⟩) n d] w (RMR w C g h n cap A B k fs bs rs) := by
  obtain ⟨i0, hi, hz0, hz1, hz2⟩ := info_parts Try.infoCell
  obtain ⟨m1, m2⟩ := area_bd hmay
  have hA1 : 1 ≤ A ∧ A ≤ 256 := by obtain ⟨h1, h2, _⟩ := mayB_iff.1 hmay; exact ⟨h1, h2⟩
  have hA := bl0 w
  have HQ := Lib.hid hx
  have G0 := hf.c0
  have G1 := hf.c1
  have hgh : g ≠ h := fun e => hf.ne (by rw [e]; rfl)
  have hhw := hf.hlt.2
  have hgw := hf.lt
  have hqh := hf.neq hq
  have HF := Lib.hid hf
  have HRF := Lib.hid hrf
  have HRQ := Lib.hid hq
  have HU := Lib.hid hu
  have HL := Lib.hid hfl
  have HRL := Lib.hid hrl
  have HBL := Lib.hid hbl
  have hn65 : n ≤ 65536 := by omega
  clear hx hf hrf hq hu hfl hrl hbl hmay hl
  go_enter Try.func10, Try.ntmps10
  go_wp2_with fail
  refine (rcheck_any _ _ _ _ _ _).mono ?_
  rintro e w1 ⟨rfl, hb⟩
  have hk : Below w.heap.size w w1 := by first | exact hb | exact bl_tr (bl_al (bl0 _) _) hb | exact bl_tr (bl_dr (bl_al (bl0 _) _)) hb | exact bl_tr (bl_al (bl_al (bl0 _) _) _) hb | exact bl_tr (bl_dr (bl_al (bl_al (bl0 _) _) _)) hb | exact bl_tr (bl_al (bl_al (bl_al (bl0 _) _) _) _) hb | exact bl_tr (bl_dr (bl_al (bl_al (bl_al (bl0 _) _) _) _)) hb | exact bl_tr (bl_al (bl_al (bl_al (bl_al (bl0 _) _) _) _) _) hb | exact bl_tr (bl_dr (bl_al (bl_al (bl_al (bl_al (bl0 _) _) _) _) _)) hb | exact bl_tr (bl_al (bl_al (bl_al (bl_al (bl_al (bl0 _) _) _) _) _) _) hb | exact bl_tr (bl_dr (bl_al (bl_al (bl_al (bl_al (bl_al (bl0 _) _) _) _) _) _)) hb | exact bl_tr (bl_al (bl_al (bl_al (bl_al (bl_al (bl_al (bl0 _) _) _) _) _) _) _) hb | exact bl_tr (bl_dr (bl_al (bl_al (bl_al (bl_al (bl_al (bl_al (bl0 _) _) _) _) _) _) _)) hb | exact bl_tr (bl_dr (bl0 _)) hb
  replace hA := bl_tr hA hk
  replace G0 := cell_later hk G0
  replace G1 := cell_later hk G1
  have f0 := cell_later hb (v := .int .i64 A) (a := ⟨w.heap.size, 0, none⟩) (by simp [go_sem])
  have f1 := cell_later hb (v := .int .i64 B) (a := ⟨w.heap.size, 1, none⟩) (by simp [go_sem])
  have f2 := cell_later hb (v := .slice a n c) (a := ⟨w.heap.size, 2, none⟩) (by simp [go_sem])
  have s0 := cell_later hb (v := .int .i64 A) (a := ⟨w.heap.size + 1, 0, none⟩) (by simp [go_sem])
  have s1 := cell_later hb (v := .int .i64 B) (a := ⟨w.heap.size + 1, 1, none⟩) (by simp [go_sem])
  clear hb hk
  have zG0 := blk_lt G0
  have zG1 := blk_lt G1
  have zf0 := blk_lt f0
  have zf1 := blk_lt f1
  have zf2 := blk_lt f2
  have zs0 := blk_lt s0
  have zs1 := blk_lt s1
  rw [HQ.out]
  go_upto_region 4 with fail
  have e1 := beq_self_eq_true A
  have e2 := beq_self_eq_true B
  go_quiet (fail)
  have hWb := bl_drn w1 nq
  obtain ⟨W, hWe⟩ : ∃ W, w1.drewN nq = W := ⟨_, rfl⟩
  rw [hWe] at hWb
  rw [hWe]
  clear hWe
  have zs1 := blk_lt s0
  replace f2 := cell_later hWb f2
  replace s0 := cell_later hWb s0
  have hAW := bl_tr hA hWb
  have hfW := Lib.hid ((HF.out).below hAW)
  have hrW := Lib.hid ((HRF.out).below hAW)
  have hqW : Hid (RowQ W q bs) := Lib.hid ((hAW.block q (Array.getElem?_eq_some_iff.1 HRQ.out).1).trans HRQ.out)
  have hqlt := (Array.getElem?_eq_some_iff.1 hqW.out).1
  have hzW := hAW.size
  have HAW := Lib.hid hAW
  clear hA hAW hWb G0 G1 f0 f1 s1 e1 e2
  go_wp2
  go_loopw [11, 12] (fun o i wr => ∃ j : Nat, j ≤ n ∧ i = .int .i64 j ∧ Hid (RMI W C g h n cap A B k fs bs rs j o wr)) (fun _ i _ => n - (intOf i).toNat)
  case atStart => exact ⟨0, Nat.zero_le _, rfl, Lib.hid ⟨KeptT.refl _ _ _, hfW.out, by simpa [mergeN_zero, flatC] using World.ownsRow_nil _ _ _ _⟩⟩
  case round =>
    obtain ⟨j, hj, rfl, HI⟩ := hrel
    have d2 := (HI.out).2.1.c2
    by_cases hlt : j < n
    · have hlI : (j : Int) < (n : Int) := by omega
      have hj0 : (0 : Int) ≤ (j : Int) := by omega
      have hl2 : (n : Int) ≤ 65536 := by omega
      have r2 := (HI.out).1.cell f2 (by omega) (by omega)
      have x0 := (HI.out).1.cell s0 (by omega) (by omega)
      obtain ⟨gb, go, rfl, yf⟩ := (hrW.out).cell (show j < fs.length by rw [HL.out]; exact hlt)
      replace yf := (HI.out).1.cell yf (hah gb go rfl) (hah gb go rfl)
      obtain ⟨yb, _⟩ := RowQ.at (((HI.out).1.2 q hqlt hqh hqh).trans hqW.out) (show j < bs.length by rw [HBL.out]; exact hlt)
      have yz := (HI.out).2.1.at (j := j) (by rw [(mergeN_len A fs bs rs j).1, HRL.out]; exact hlt)
      have hnx := mergeN_next A fs bs rs j
      unfold stepN at hnx
      have hfd : fs.getD j 0 = fs[j]'(by rw [HL.out]; exact hlt) := by simp [List.getD_eq_getElem?_getD, HL.out, hlt]
      have hfb : inH (fs[j]'(by rw [HL.out]; exact hlt)) := (HU.out).at _
      rw [← hfd] at yf hfb
      obtain ⟨f, hff⟩ : ∃ f, fs.getD j 0 = f := ⟨_, rfl⟩
      obtain ⟨b, hbb⟩ : ∃ b, bs.getD j false = b := ⟨_, rfl⟩
      obtain ⟨z, hzz⟩ : ∃ z, (mergeN A fs bs rs j).1.getD j 0 = z := ⟨_, rfl⟩
      rw [hff] at yf hfb hnx
      rw [hbb] at yb hnx
      rw [hzz] at yz hnx
      obtain ⟨hf0, hf1⟩ := hfb
      have hfw : IntKind.i64.wrap f = f := IntWalk.i64_in _ (by omega)
      clear hfd hff hbb hzz
      cases b with
      | false =>
        have HS : Hid (mergeN A fs bs rs (j + 1) = mergeN A fs bs rs j) := Lib.hid (by rw [hnx, if_neg (by first | simp | simp [*])])
        clear hnx
        go_upto_region 10 with fail
        go_quiet (fail)
        go_wp2
        go_roundw
        case rel => exact ⟨j + 1, by omega, by go_num, Lib.hid (by unfold RMI; rw [HS.out]; exact (HI.out).below (bl_drn _ _))⟩
        case measure => simp [intOf]; omega
      | true =>
        by_cases hz : z = f
        · subst hz
          have e3 := beq_self_eq_true z
          have e4 : (z != z) = false := by simp
          have HS : Hid (mergeN A fs bs rs (j + 1) = mergeN A fs bs rs j) := Lib.hid (by rw [hnx, if_neg (by first | simp | simp [*])])
          clear hnx
          go_upto_region 10 with fail
          go_quiet (fail)
          go_wp2
          go_roundw
          case rel => exact ⟨j + 1, by omega, by go_num, Lib.hid (by unfold RMI; rw [HS.out]; exact (HI.out).below (bl_drn _ _))⟩
          case measure => simp [intOf]; omega
        · have e3 : (z == f) = false := by rw [beq_eq_false_iff_ne]; exact hz
          have e4 : (z != f) = true := by rw [bne_iff_ne]; exact hz
          have HS : Hid (mergeN A fs bs rs (j + 1) = ((mergeN A fs bs rs j).1.set j f, (mergeN A fs bs rs j).2 ++ [((j : Int) % A, (j : Int) / A)])) := Lib.hid (by rw [hnx, if_pos (by simp [e4])])
          clear hnx hz
          go_upto_region 10 with fail
          go_quiet (fail)
          obtain ⟨Wq, hWqe⟩ : ∃ Wq, wr.drewN nq = Wq := ⟨_, rfl⟩
          have hWq := bl_drn wr nq
          rw [hWqe] at hWq
          rw [hWqe]
          clear hWqe e3 e4 yb
          replace d2 := cell_later hWq d2
          replace r2 := cell_later hWq r2
          replace x0 := cell_later hWq x0
          replace yf := cell_later hWq yf
          replace yz := cell_later hWq yz
          have HJ := Lib.hid ((HI.out).below hWq)
          clear HI hWq
          have hlr : (mergeN A fs bs rs j).1.length = n := (mergeN_len A fs bs rs j).1.trans HRL.out
          have hbd : (mergeN A fs bs rs j).2.length ≤ j := (mergeN_len A fs bs rs j).2
          go_upto_region 11 with fail
          have hD := bl_dr (bl0 Wq)
          refine (wpIn_wide (n := 11)).1 ?_
          refine ordZ_begin (z := 12) (S := (fun w' : World => w'.cell? ⟨g, 2, none⟩ = some (.slice (some ⟨h, 0, none⟩) n cap) ∧ w'.cell? ⟨w.heap.size, 2, none⟩ = some (.slice (some ⟨gb, go, none⟩) n c) ∧ w'.cell? ⟨gb, go + j, none⟩ = some (.int .u16 f) ∧ w'.cell? ⟨h, j, none⟩ = some (.int .i64 z))) (by kernel_rfl) ⟨cell_later hD d2, cell_later hD r2, cell_later hD yf, cell_later hD yz⟩ (fun hH => ?_)
          first
            | (refine' ordZ_take (i := 0) (oi := { dst := some 62, op := Op.move (Operand.tmp 0), type := 33, pos := _, after := #[], guard := none }) (v := _) rfl (by kernel_rfl) (by kernel_rfl) (by kernel_rfl) (by kernel_rfl) (fun _ _ _ h => h) (by assumption) (by kernel_rfl) (by decide) (by rfl) (Or.inl ⟨by rfl, ?hy1⟩) (fun _ => rfl) ?rest1
               case hy1 => (intro w hSw; (try dsimp only at hSw); go_simp; try with_reducible rfl))
            | (refine ordZ_take (i := 0) (oi := { dst := some 62, op := Op.move (Operand.tmp 0), type := 33, pos := _, after := #[], guard := none }) (v := undef) rfl (by kernel_rfl) (by kernel_rfl) (by kernel_rfl) (by kernel_rfl) (fun _ _ _ h => h) (by assumption) (by kernel_rfl) (by decide) (by rfl) (Or.inr ⟨by rfl, rfl⟩) (fun _ => rfl) ?_)
          try simp only [Act.put, List.setIfInBounds_toArray, List.set_cons_zero, List.set_cons_succ]
          first
            | (refine' ordZ_take (i := 1) (oi := { dst := some 63, op := Op.nilCheck (Operand.tmp 62), type := 0, pos := _, after := #[{ on := 0, ground := Ground.data }], guard := none }) (v := _) rfl (by kernel_rfl) (by kernel_rfl) (by kernel_rfl) (by kernel_rfl) (fun _ _ _ h => h) (by assumption) (by kernel_rfl) (by decide) (by rfl) (Or.inl ⟨by rfl, ?hy2⟩) (fun _ => rfl) ?rest2
               case hy2 => (intro w hSw; (try dsimp only at hSw); go_simp; try with_reducible rfl))
            | (refine ordZ_take (i := 1) (oi := { dst := some 63, op := Op.nilCheck (Operand.tmp 62), type := 0, pos := _, after := #[{ on := 0, ground := Ground.data }], guard := none }) (v := undef) rfl (by kernel_rfl) (by kernel_rfl) (by kernel_rfl) (by kernel_rfl) (fun _ _ _ h => h) (by assumption) (by kernel_rfl) (by decide) (by rfl) (Or.inr ⟨by rfl, rfl⟩) (fun _ => rfl) ?_)
          try simp only [Act.put, List.setIfInBounds_toArray, List.set_cons_zero, List.set_cons_succ]
          first
            | (refine' ordZ_take (i := 2) (oi := { dst := some 64, op := Op.fieldAddr 52 (Operand.tmp 63) 1, type := 0, pos := _, after := #[{ on := 1, ground := Ground.data }], guard := none }) (v := _) rfl (by kernel_rfl) (by kernel_rfl) (by kernel_rfl) (by kernel_rfl) (fun _ _ _ h => h) (by assumption) (by kernel_rfl) (by decide) (by rfl) (Or.inl ⟨by rfl, ?hy3⟩) (fun _ => rfl) ?rest3
               case hy3 => (intro w hSw; (try dsimp only at hSw); go_simp; try with_reducible rfl))
            | (refine ordZ_take (i := 2) (oi := { dst := some 64, op := Op.fieldAddr 52 (Operand.tmp 63) 1, type := 0, pos := _, after := #[{ on := 1, ground := Ground.data }], guard := none }) (v := undef) rfl (by kernel_rfl) (by kernel_rfl) (by kernel_rfl) (by kernel_rfl) (fun _ _ _ h => h) (by assumption) (by kernel_rfl) (by decide) (by rfl) (Or.inr ⟨by rfl, rfl⟩) (fun _ => rfl) ?_)
          try simp only [Act.put, List.setIfInBounds_toArray, List.set_cons_zero, List.set_cons_succ]
          first
            | (refine' ordZ_take (i := 3) (oi := { dst := some 65, op := Op.load 50 (Operand.tmp 64), type := 50, pos := _, after := #[{ on := 2, ground := Ground.data }], guard := none }) (v := _) rfl (by kernel_rfl) (by kernel_rfl) (by kernel_rfl) (by kernel_rfl) (fun _ _ _ h => h) (by assumption) (by kernel_rfl) (by decide) (by rfl) (Or.inl ⟨by rfl, ?hy4⟩) (fun _ => rfl) ?rest4
               case hy4 => (intro w hSw; (try dsimp only at hSw); go_simp; try with_reducible rfl))
            | (refine ordZ_take (i := 3) (oi := { dst := some 65, op := Op.load 50 (Operand.tmp 64), type := 50, pos := _, after := #[{ on := 2, ground := Ground.data }], guard := none }) (v := undef) rfl (by kernel_rfl) (by kernel_rfl) (by kernel_rfl) (by kernel_rfl) (fun _ _ _ h => h) (by assumption) (by kernel_rfl) (by decide) (by rfl) (Or.inr ⟨by rfl, rfl⟩) (fun _ => rfl) ?_)
          try simp only [Act.put, List.setIfInBounds_toArray, List.set_cons_zero, List.set_cons_succ]
          first
            | (refine' ordZ_take (i := 4) (oi := { dst := some 66, op := Op.move (Operand.tmp 12), type := 3, pos := _, after := #[], guard := none }) (v := _) rfl (by kernel_rfl) (by kernel_rfl) (by kernel_rfl) (by kernel_rfl) (fun _ _ _ h => h) (by assumption) (by kernel_rfl) (by decide) (by rfl) (Or.inl ⟨by rfl, ?hy5⟩) (fun _ => rfl) ?rest5
               case hy5 => (intro w hSw; (try dsimp only at hSw); go_simp; try with_reducible rfl))
            | (refine ordZ_take (i := 4) (oi := { dst := some 66, op := Op.move (Operand.tmp 12), type := 3, pos := _, after := #[], guard := none }) (v := undef) rfl (by kernel_rfl) (by kernel_rfl) (by kernel_rfl) (by kernel_rfl) (fun _ _ _ h => h) (by assumption) (by kernel_rfl) (by decide) (by rfl) (Or.inr ⟨by rfl, rfl⟩) (fun _ => rfl) ?_)
          try simp only [Act.put, List.setIfInBounds_toArray, List.set_cons_zero, List.set_cons_succ]
          first
            | (refine' ordZ_take (i := 5) (oi := { dst := some 67, op := Op.fieldAddr 37 (Operand.tmp 5) 1, type := 0, pos := _, after := #[], guard := none }) (v := _) rfl (by kernel_rfl) (by kernel_rfl) (by kernel_rfl) (by kernel_rfl) (fun _ _ _ h => h) (by assumption) (by kernel_rfl) (by decide) (by rfl) (Or.inl ⟨by rfl, ?hy6⟩) (fun _ => rfl) ?rest6
               case hy6 => (intro w hSw; (try dsimp only at hSw); go_simp; try with_reducible rfl))
            | (refine ordZ_take (i := 5) (oi := { dst := some 67, op := Op.fieldAddr 37 (Operand.tmp 5) 1, type := 0, pos := _, after := #[], guard := none }) (v := undef) rfl (by kernel_rfl) (by kernel_rfl) (by kernel_rfl) (by kernel_rfl) (fun _ _ _ h => h) (by assumption) (by kernel_rfl) (by decide) (by rfl) (Or.inr ⟨by rfl, rfl⟩) (fun _ => rfl) ?_)
          try simp only [Act.put, List.setIfInBounds_toArray, List.set_cons_zero, List.set_cons_succ]
          first
            | (refine' ordZ_take (i := 6) (oi := { dst := some 68, op := Op.load 35 (Operand.tmp 67), type := 35, pos := _, after := #[{ on := 5, ground := Ground.data }], guard := none }) (v := _) rfl (by kernel_rfl) (by kernel_rfl) (by kernel_rfl) (by kernel_rfl) (fun _ _ _ h => h) (by assumption) (by kernel_rfl) (by decide) (by rfl) (Or.inl ⟨by rfl, ?hy7⟩) (fun _ => rfl) ?rest7
               case hy7 => (intro w hSw; (try dsimp only at hSw); go_simp; try with_reducible rfl))
            | (refine ordZ_take (i := 6) (oi := { dst := some 68, op := Op.load 35 (Operand.tmp 67), type := 35, pos := _, after := #[{ on := 5, ground := Ground.data }], guard := none }) (v := undef) rfl (by kernel_rfl) (by kernel_rfl) (by kernel_rfl) (by kernel_rfl) (fun _ _ _ h => h) (by assumption) (by kernel_rfl) (by decide) (by rfl) (Or.inr ⟨by rfl, rfl⟩) (fun _ => rfl) ?_)
          try simp only [Act.put, List.setIfInBounds_toArray, List.set_cons_zero, List.set_cons_succ]
          first
            | (refine' ordZ_take (i := 7) (oi := { dst := some 69, op := Op.move (Operand.tmp 12), type := 3, pos := _, after := #[], guard := none }) (v := _) rfl (by kernel_rfl) (by kernel_rfl) (by kernel_rfl) (by kernel_rfl) (fun _ _ _ h => h) (by assumption) (by kernel_rfl) (by decide) (by rfl) (Or.inl ⟨by rfl, ?hy8⟩) (fun _ => rfl) ?rest8
               case hy8 => (intro w hSw; (try dsimp only at hSw); go_simp; try with_reducible rfl))
            | (refine ordZ_take (i := 7) (oi := { dst := some 69, op := Op.move (Operand.tmp 12), type := 3, pos := _, after := #[], guard := none }) (v := undef) rfl (by kernel_rfl) (by kernel_rfl) (by kernel_rfl) (by kernel_rfl) (fun _ _ _ h => h) (by assumption) (by kernel_rfl) (by decide) (by rfl) (Or.inr ⟨by rfl, rfl⟩) (fun _ => rfl) ?_)
          try simp only [Act.put, List.setIfInBounds_toArray, List.set_cons_zero, List.set_cons_succ]
          first
            | (refine' ordZ_take (i := 8) (oi := { dst := some 70, op := Op.indexAddr 35 (Operand.tmp 68) (Operand.tmp 69), type := 0, pos := _, after := #[{ on := 6, ground := Ground.data }, { on := 7, ground := Ground.data }], guard := none }) (v := _) rfl (by kernel_rfl) (by kernel_rfl) (by kernel_rfl) (by kernel_rfl) (fun _ _ _ h => h) (by assumption) (by kernel_rfl) (by decide) (by rfl) (Or.inl ⟨by rfl, ?hy9⟩) (fun _ => rfl) ?rest9
               case hy9 => (intro w hSw; (try dsimp only at hSw); go_simp; try with_reducible rfl))
            | (refine ordZ_take (i := 8) (oi := { dst := some 70, op := Op.indexAddr 35 (Operand.tmp 68) (Operand.tmp 69), type := 0, pos := _, after := #[{ on := 6, ground := Ground.data }, { on := 7, ground := Ground.data }], guard := none }) (v := undef) rfl (by kernel_rfl) (by kernel_rfl) (by kernel_rfl) (by kernel_rfl) (fun _ _ _ h => h) (by assumption) (by kernel_rfl) (by decide) (by rfl) (Or.inr ⟨by rfl, rfl⟩) (fun _ => rfl) ?_)
          try simp only [Act.put, List.setIfInBounds_toArray, List.set_cons_zero, List.set_cons_succ]
          first
            | (refine' ordZ_take (i := 9) (oi := { dst := some 71, op := Op.load 53 (Operand.tmp 70), type := 53, pos := _, after := #[{ on := 8, ground := Ground.data }], guard := none }) (v := _) rfl (by kernel_rfl) (by kernel_rfl) (by kernel_rfl) (by kernel_rfl) (fun _ _ _ h => h) (by assumption) (by kernel_rfl) (by decide) (by rfl) (Or.inl ⟨by rfl, ?hy10⟩) (fun _ => rfl) ?rest10
               case hy10 => (intro w hSw; (try dsimp only at hSw); go_simp; try with_reducible rfl))
            | (refine ordZ_take (i := 9) (oi := { dst := some 71, op := Op.load 53 (Operand.tmp 70), type := 53, pos := _, after := #[{ on := 8, ground := Ground.data }], guard := none }) (v := undef) rfl (by kernel_rfl) (by kernel_rfl) (by kernel_rfl) (by kernel_rfl) (fun _ _ _ h => h) (by assumption) (by kernel_rfl) (by decide) (by rfl) (Or.inr ⟨by rfl, rfl⟩) (fun _ => rfl) ?_)
          try simp only [Act.put, List.setIfInBounds_toArray, List.set_cons_zero, List.set_cons_succ]
          first
            | (refine' ordZ_take (i := 10) (oi := { dst := some 72, op := Op.convert 53 3 (Operand.tmp 71), type := 3, pos := _, after := #[{ on := 9, ground := Ground.data }], guard := none }) (v := _) rfl (by kernel_rfl) (by kernel_rfl) (by kernel_rfl) (by kernel_rfl) (fun _ _ _ h => h) (by assumption) (by kernel_rfl) (by decide) (by rfl) (Or.inl ⟨by rfl, ?hy11⟩) (fun _ => rfl) ?rest11
               case hy11 => (intro w hSw; (try dsimp only at hSw); go_simp; try with_reducible rfl))
            | (refine ordZ_take (i := 10) (oi := { dst := some 72, op := Op.convert 53 3 (Operand.tmp 71), type := 3, pos := _, after := #[{ on := 9, ground := Ground.data }], guard := none }) (v := undef) rfl (by kernel_rfl) (by kernel_rfl) (by kernel_rfl) (by kernel_rfl) (fun _ _ _ h => h) (by assumption) (by kernel_rfl) (by decide) (by rfl) (Or.inr ⟨by rfl, rfl⟩) (fun _ => rfl) ?_)
          try simp only [Act.put, List.setIfInBounds_toArray, List.set_cons_zero, List.set_cons_succ]
          first
            | (refine' ordZ_take (i := 11) (oi := { dst := some 73, op := Op.indexAddr 50 (Operand.tmp 65) (Operand.tmp 66), type := 0, pos := _, after := #[{ on := 3, ground := Ground.data }, { on := 4, ground := Ground.data }, { on := 0, ground := Ground.phase }, { on := 1, ground := Ground.phase }, { on := 2, ground := Ground.phase }, { on := 3, ground := Ground.phase }, { on := 4, ground := Ground.phase }, { on := 5, ground := Ground.phase }, { on := 6, ground := Ground.phase }, { on := 7, ground := Ground.phase }, { on := 8, ground := Ground.phase }, { on := 9, ground := Ground.phase }, { on := 10, ground := Ground.phase }], guard := none }) (v := _) rfl (by kernel_rfl) (by kernel_rfl) (by kernel_rfl) (by kernel_rfl) (fun _ _ _ h => h) (by assumption) (by kernel_rfl) (by decide) (by rfl) (Or.inl ⟨by rfl, ?hy12⟩) (fun _ => rfl) ?rest12
               case hy12 => (intro w hSw; (try dsimp only at hSw); go_simp; try with_reducible rfl))
            | (refine ordZ_take (i := 11) (oi := { dst := some 73, op := Op.indexAddr 50 (Operand.tmp 65) (Operand.tmp 66), type := 0, pos := _, after := #[{ on := 3, ground := Ground.data }, { on := 4, ground := Ground.data }, { on := 0, ground := Ground.phase }, { on := 1, ground := Ground.phase }, { on := 2, ground := Ground.phase }, { on := 3, ground := Ground.phase }, { on := 4, ground := Ground.phase }, { on := 5, ground := Ground.phase }, { on := 6, ground := Ground.phase }, { on := 7, ground := Ground.phase }, { on := 8, ground := Ground.phase }, { on := 9, ground := Ground.phase }, { on := 10, ground := Ground.phase }], guard := none }) (v := undef) rfl (by kernel_rfl) (by kernel_rfl) (by kernel_rfl) (by kernel_rfl) (fun _ _ _ h => h) (by assumption) (by kernel_rfl) (by decide) (by rfl) (Or.inr ⟨by rfl, rfl⟩) (fun _ => rfl) ?_)
          try simp only [Act.put, List.setIfInBounds_toArray, List.set_cons_zero, List.set_cons_succ]
          refine ordZ_one (i := 12) (o := { dst := none, op := Op.store 3 (Operand.tmp 73) (Operand.tmp 72), type := 0, pos := _, after := #[{ on := 11, ground := Ground.data }, { on := 10, ground := Ground.data }, { on := 0, ground := Ground.phase }, { on := 1, ground := Ground.phase }, { on := 2, ground := Ground.phase }, { on := 3, ground := Ground.phase }, { on := 4, ground := Ground.phase }, { on := 5, ground := Ground.phase }, { on := 6, ground := Ground.phase }, { on := 7, ground := Ground.phase }, { on := 8, ground := Ground.phase }, { on := 9, ground := Ground.phase }, { on := 10, ground := Ground.phase }], guard := none }) (by kernel_rfl) rfl (by rfl) (fun K hK => ?_)
          have yz2 := cell_later hD yz
          have f9 : Wq.drew.frozen? ⟨h, j, none⟩ = false := ((HJ.out).below hD).2.1.fh hlr.symm j
          have zh := blk_lt yz2
          go_simp
          refine hK _ _ (fun h => by cases h) ?_
          clear hK K hH
          try simp only [Act.put, List.setIfInBounds_toArray, List.set_cons_zero, List.set_cons_succ]
          refine ordZ_done (by kernel_rfl) ?_
          obtain ⟨p1, p2⟩ := RFogAt.put (((HJ.out).below hD).2.1) hlr.symm j f
          have p3 : (Wq.drew.setCell ⟨h, j, none⟩ (.int .i64 f)).ownsRow W.heap.size 26 2 u11 (mergeN A fs bs rs j).2.length (flatC (mergeN A fs bs rs j).2) :=
            (((HJ.out).below hD).2.2).kept (grown_set Wq.drew h j (.int .i64 f)) (.inr (fun e => by have := ((HJ.out).2.2.lt h e).1; omega))
          have x1 := p2.cell (cell_later hD x0) (by omega) (by omega)
          have PK := Lib.hid (((HJ.out).below hD).1.trans p2)
          have hdef : Wq.drew.setCell ⟨h, j, none⟩ (.int .i64 f) = (Wq.setCell ⟨h, j, none⟩ (.int .i64 f)).drew := rfl
          have hzr := Nat.le_trans hzW ((((HJ.out).below hD).1.trans p2).1.size)
          have hWr : W.heap.size ≤ (Wq.drew.setCell ⟨h, j, none⟩ (.int .i64 f)).heap.size := (((HJ.out).below hD).1.trans p2).1.size
          obtain ⟨W3, hW3⟩ : ∃ W3, (Wq.setCell ⟨h, j, none⟩ (.int .i64 f)).drew = W3 := ⟨_, rfl⟩
          rw [hdef, hW3] at p1 p2 p3 x1 PK hWr
          rw [hW3]
          have P1 := Lib.hid p1
          have P3 := Lib.hid p3
          clear p1 p2 p3 hdef hW3 hD yz2 f9 zh x0 d2 r2 yf yz HJ hzr
          have hX0 : ¬ A = 0 := by omega
          have hrem : (j : Int).tmod A = (j : Int) % A := Int.tmod_eq_emod_of_nonneg hj0
          have hquo : (j : Int).tdiv A = (j : Int) / A := Int.tdiv_eq_ediv_of_nonneg hj0
          have hwr : IntKind.i64.wrap ((j : Int) / A) = (j : Int) / A := IntWalk.i64_in _ (by have := Int.ediv_nonneg hj0 (show 0 ≤ A by omega); have := Int.ediv_le_self A hj0; omega)
          go_upto_region 12 with fail
          have hA := bl_dr (bl0 W3)
          have c0d := cell_later hA x1
          refine (wpIn_wide (n := 11)).1 ?_
          refine ordS_begin (S := (fun w' => w'.cell? ⟨w.heap.size + 1, 0, none⟩ = some (.int .i64 A))) (by kernel_rfl) c0d (fun hH => ?_)
          first
            | (refine' ordS_take (i := 0) (oi := { dst := some 74, op := Op.move (Operand.tmp 11), type := 38, pos := _, after := #[], guard := none }) (v := _) rfl (by kernel_rfl) (by kernel_rfl) (by kernel_rfl) (by kernel_rfl) (fun _ _ _ h => h) (by assumption) (Or.inl ⟨by rfl, ?hy13⟩) (fun _ => rfl) ?rest13
               case hy13 => (intro w hSw; (try dsimp only at hSw); go_simp; try with_reducible rfl))
            | (refine ordS_take (i := 0) (oi := { dst := some 74, op := Op.move (Operand.tmp 11), type := 38, pos := _, after := #[], guard := none }) (v := undef) rfl (by kernel_rfl) (by kernel_rfl) (by kernel_rfl) (by kernel_rfl) (fun _ _ _ h => h) (by assumption) (Or.inr ⟨by rfl, rfl⟩) (fun _ => rfl) ?_)
          try simp only [Act.put, List.setIfInBounds_toArray, List.set_cons_zero, List.set_cons_succ]
          first
            | (refine' ordS_take (i := 1) (oi := { dst := some 75, op := Op.move (Operand.tmp 12), type := 3, pos := _, after := #[], guard := none }) (v := _) rfl (by kernel_rfl) (by kernel_rfl) (by kernel_rfl) (by kernel_rfl) (fun _ _ _ h => h) (by assumption) (Or.inl ⟨by rfl, ?hy14⟩) (fun _ => rfl) ?rest14
               case hy14 => (intro w hSw; (try dsimp only at hSw); go_simp; try with_reducible rfl))
            | (refine ordS_take (i := 1) (oi := { dst := some 75, op := Op.move (Operand.tmp 12), type := 3, pos := _, after := #[], guard := none }) (v := undef) rfl (by kernel_rfl) (by kernel_rfl) (by kernel_rfl) (by kernel_rfl) (fun _ _ _ h => h) (by assumption) (Or.inr ⟨by rfl, rfl⟩) (fun _ => rfl) ?_)
          try simp only [Act.put, List.setIfInBounds_toArray, List.set_cons_zero, List.set_cons_succ]
          first
            | (refine' ordS_take (i := 2) (oi := { dst := some 76, op := Op.fieldAddr 23 (Operand.tmp 6) 0, type := 0, pos := _, after := #[], guard := none }) (v := _) rfl (by kernel_rfl) (by kernel_rfl) (by kernel_rfl) (by kernel_rfl) (fun _ _ _ h => h) (by assumption) (Or.inl ⟨by rfl, ?hy15⟩) (fun _ => rfl) ?rest15
               case hy15 => (intro w hSw; (try dsimp only at hSw); go_simp; try with_reducible rfl))
            | (refine ordS_take (i := 2) (oi := { dst := some 76, op := Op.fieldAddr 23 (Operand.tmp 6) 0, type := 0, pos := _, after := #[], guard := none }) (v := undef) rfl (by kernel_rfl) (by kernel_rfl) (by kernel_rfl) (by kernel_rfl) (fun _ _ _ h => h) (by assumption) (Or.inr ⟨by rfl, rfl⟩) (fun _ => rfl) ?_)
          try simp only [Act.put, List.setIfInBounds_toArray, List.set_cons_zero, List.set_cons_succ]
          first
            | (refine' ordS_take (i := 3) (oi := { dst := some 77, op := Op.load 3 (Operand.tmp 76), type := 3, pos := _, after := #[{ on := 2, ground := Ground.data }], guard := none }) (v := _) rfl (by kernel_rfl) (by kernel_rfl) (by kernel_rfl) (by kernel_rfl) (fun _ _ _ h => h) (by assumption) (Or.inl ⟨by rfl, ?hy16⟩) (fun _ => rfl) ?rest16
               case hy16 => (intro w hSw; (try dsimp only at hSw); go_simp; try with_reducible rfl))
            | (refine ordS_take (i := 3) (oi := { dst := some 77, op := Op.load 3 (Operand.tmp 76), type := 3, pos := _, after := #[{ on := 2, ground := Ground.data }], guard := none }) (v := undef) rfl (by kernel_rfl) (by kernel_rfl) (by kernel_rfl) (by kernel_rfl) (fun _ _ _ h => h) (by assumption) (Or.inr ⟨by rfl, rfl⟩) (fun _ => rfl) ?_)
          try simp only [Act.put, List.setIfInBounds_toArray, List.set_cons_zero, List.set_cons_succ]
          first
            | (refine' ordS_take (i := 4) (oi := { dst := some 78, op := Op.binOp BinOp.rem 3 (Operand.tmp 75) (Operand.tmp 77) 3, type := 3, pos := _, after := #[{ on := 1, ground := Ground.data }, { on := 3, ground := Ground.data }], guard := none }) (v := _) rfl (by kernel_rfl) (by kernel_rfl) (by kernel_rfl) (by kernel_rfl) (fun _ _ _ h => h) (by assumption) (Or.inl ⟨by rfl, ?hy17⟩) (fun _ => rfl) ?rest17
               case hy17 => (intro w hSw; (try dsimp only at hSw); go_simp; try with_reducible rfl))
            | (refine ordS_take (i := 4) (oi := { dst := some 78, op := Op.binOp BinOp.rem 3 (Operand.tmp 75) (Operand.tmp 77) 3, type := 3, pos := _, after := #[{ on := 1, ground := Ground.data }, { on := 3, ground := Ground.data }], guard := none }) (v := undef) rfl (by kernel_rfl) (by kernel_rfl) (by kernel_rfl) (by kernel_rfl) (fun _ _ _ h => h) (by assumption) (Or.inr ⟨by rfl, rfl⟩) (fun _ => rfl) ?_)
          try simp only [Act.put, List.setIfInBounds_toArray, List.set_cons_zero, List.set_cons_succ]
          first
            | (refine' ordS_take (i := 5) (oi := { dst := some 79, op := Op.move (Operand.tmp 12), type := 3, pos := _, after := #[], guard := none }) (v := _) rfl (by kernel_rfl) (by kernel_rfl) (by kernel_rfl) (by kernel_rfl) (fun _ _ _ h => h) (by assumption) (Or.inl ⟨by rfl, ?hy18⟩) (fun _ => rfl) ?rest18
               case hy18 => (intro w hSw; (try dsimp only at hSw); go_simp; try with_reducible rfl))
            | (refine ordS_take (i := 5) (oi := { dst := some 79, op := Op.move (Operand.tmp 12), type := 3, pos := _, after := #[], guard := none }) (v := undef) rfl (by kernel_rfl) (by kernel_rfl) (by kernel_rfl) (by kernel_rfl) (fun _ _ _ h => h) (by assumption) (Or.inr ⟨by rfl, rfl⟩) (fun _ => rfl) ?_)
          try simp only [Act.put, List.setIfInBounds_toArray, List.set_cons_zero, List.set_cons_succ]
          first
            | (refine' ordS_take (i := 6) (oi := { dst := some 80, op := Op.fieldAddr 23 (Operand.tmp 6) 0, type := 0, pos := _, after := #[], guard := none }) (v := _) rfl (by kernel_rfl) (by kernel_rfl) (by kernel_rfl) (by kernel_rfl) (fun _ _ _ h => h) (by assumption) (Or.inl ⟨by rfl, ?hy19⟩) (fun _ => rfl) ?rest19
               case hy19 => (intro w hSw; (try dsimp only at hSw); go_simp; try with_reducible rfl))
            | (refine ordS_take (i := 6) (oi := { dst := some 80, op := Op.fieldAddr 23 (Operand.tmp 6) 0, type := 0, pos := _, after := #[], guard := none }) (v := undef) rfl (by kernel_rfl) (by kernel_rfl) (by kernel_rfl) (by kernel_rfl) (fun _ _ _ h => h) (by assumption) (Or.inr ⟨by rfl, rfl⟩) (fun _ => rfl) ?_)
          try simp only [Act.put, List.setIfInBounds_toArray, List.set_cons_zero, List.set_cons_succ]
          first
            | (refine' ordS_take (i := 7) (oi := { dst := some 81, op := Op.load 3 (Operand.tmp 80), type := 3, pos := _, after := #[{ on := 6, ground := Ground.data }], guard := none }) (v := _) rfl (by kernel_rfl) (by kernel_rfl) (by kernel_rfl) (by kernel_rfl) (fun _ _ _ h => h) (by assumption) (Or.inl ⟨by rfl, ?hy20⟩) (fun _ => rfl) ?rest20
               case hy20 => (intro w hSw; (try dsimp only at hSw); go_simp; try with_reducible rfl))
            | (refine ordS_take (i := 7) (oi := { dst := some 81, op := Op.load 3 (Operand.tmp 80), type := 3, pos := _, after := #[{ on := 6, ground := Ground.data }], guard := none }) (v := undef) rfl (by kernel_rfl) (by kernel_rfl) (by kernel_rfl) (by kernel_rfl) (fun _ _ _ h => h) (by assumption) (Or.inr ⟨by rfl, rfl⟩) (fun _ => rfl) ?_)
          try simp only [Act.put, List.setIfInBounds_toArray, List.set_cons_zero, List.set_cons_succ]
          first
            | (refine' ordS_take (i := 8) (oi := { dst := some 82, op := Op.binOp BinOp.quo 3 (Operand.tmp 79) (Operand.tmp 81) 3, type := 3, pos := _, after := #[{ on := 5, ground := Ground.data }, { on := 7, ground := Ground.data }], guard := none }) (v := _) rfl (by kernel_rfl) (by kernel_rfl) (by kernel_rfl) (by kernel_rfl) (fun _ _ _ h => h) (by assumption) (Or.inl ⟨by rfl, ?hy21⟩) (fun _ => rfl) ?rest21
               case hy21 => (intro w hSw; (try dsimp only at hSw); go_simp; try with_reducible rfl))
            | (refine ordS_take (i := 8) (oi := { dst := some 82, op := Op.binOp BinOp.quo 3 (Operand.tmp 79) (Operand.tmp 81) 3, type := 3, pos := _, after := #[{ on := 5, ground := Ground.data }, { on := 7, ground := Ground.data }], guard := none }) (v := undef) rfl (by kernel_rfl) (by kernel_rfl) (by kernel_rfl) (by kernel_rfl) (fun _ _ _ h => h) (by assumption) (Or.inr ⟨by rfl, rfl⟩) (fun _ => rfl) ?_)
          try simp only [Act.put, List.setIfInBounds_toArray, List.set_cons_zero, List.set_cons_succ]
          first
            | (refine' ordS_take (i := 9) (oi := { dst := some 83, op := Op.build 26 #[(0, Operand.tmp 78), (1, Operand.tmp 82)], type := 26, pos := _, after := #[{ on := 4, ground := Ground.data }, { on := 8, ground := Ground.data }], guard := none }) (v := _) rfl (by kernel_rfl) (by kernel_rfl) (by kernel_rfl) (by kernel_rfl) (fun _ _ _ h => h) (by assumption) (Or.inl ⟨by rfl, ?hy22⟩) (fun _ => rfl) ?rest22
               case hy22 => (intro w hSw; (try dsimp only at hSw); go_simp; try with_reducible rfl))
            | (refine ordS_take (i := 9) (oi := { dst := some 83, op := Op.build 26 #[(0, Operand.tmp 78), (1, Operand.tmp 82)], type := 26, pos := _, after := #[{ on := 4, ground := Ground.data }, { on := 8, ground := Ground.data }], guard := none }) (v := undef) rfl (by kernel_rfl) (by kernel_rfl) (by kernel_rfl) (by kernel_rfl) (fun _ _ _ h => h) (by assumption) (Or.inr ⟨by rfl, rfl⟩) (fun _ => rfl) ?_)
          try simp only [Act.put, List.setIfInBounds_toArray, List.set_cons_zero, List.set_cons_succ]
          obtain ⟨W2, hW2⟩ : ∃ W2, W3.drew = W2 := ⟨_, rfl⟩
          rw [hW2] at hA c0d
          rw [hW2]
          clear hW2 hH
          have hown2 := own_later P3.out hA
          have hm2 := (P1.out).below hA
          have hk2 := (PK.out).trans (keptT_of_below (g := h) (h := h) hA)
          clear hA x1 hrem hquo hwr hX0
          obtain ⟨x, hx⟩ : ∃ x, (j : Int) % A = x := ⟨_, rfl⟩
          obtain ⟨y, hy⟩ : ∃ y, (j : Int) / A = y := ⟨_, rfl⟩
          rw [hx, hy] at HS
          rw [hx, hy]
          clear hx hy
          have hzz : W.heap.size ≤ W2.heap.size := hk2.1.size
          refine ordS_one (i := 10) (o := { dst := some 84, op := Op.buildSlice 38 1 #[(0, Operand.tmp 83)], type := 38, pos := _, after := #[{ on := 9, ground := Ground.data }], guard := none }) (by kernel_rfl) rfl (by rfl) (fun K hK => ?_)
          go_simp
          refine hK _ _ (cell_later (bl_al (bl0 W2) _) c0d) ?_
          clear hK K
          try simp only [Act.put, List.setIfInBounds_toArray, List.set_cons_zero, List.set_cons_succ]
          refine ordS_append (i := 11) (o := { dst := some 85, op := Op.call { callee := Callee.builtin Builtin.append, args := #[Operand.tmp 74, Operand.tmp 84], argTypes := #[38, 38] }, type := 38, pos := _, after := #[{ on := 0, ground := Ground.data }, { on := 10, ground := Ground.data }], guard := none }) _ (by kernel_rfl) rfl (by rfl) _ _ 38 rfl W.heap.size 26 i0 (.agg #[.int .i64 0, .int .i64 0]) 2 16 Try.underlying38 hi hz0 hz1 hz2 rfl (by decide) _ _ _ rfl (hown2.alloc _) ⟨W2.heap.size, 0, none⟩ 1 1 [.int .i64 x, .int .i64 y] rfl rfl ?c1 ?c2 ?c3 ?c4 ?c5 ?_
          case c1 => exact cell_two_new _ _ _ _
          case c2 => intro u hu; simp at hu; rcases hu with rfl | rfl <;> rfl
          case c3 => unfold maxLen; omega
          case c4 => omega
          case c5 => (first | (simp; omega) | omega)
          intro v' w9 hown' hgrow
          have hlow : ∀ i, u11.ownBlock = some i → W.heap.size ≤ i := fun i e => ((P3.out).lt i e).1
          have hm3 := (hm2.below (bl_al (bl0 W2) (.cells #[.int .i64 x, .int .i64 y] 26))).kept hgrow (fun e => by have := hlow _ e.symm; omega) (.inr (fun e => by have := hlow h e.symm; omega))
          have hk3 := (hk2.trans (keptT_of_below (g := h) (h := h) (bl_al (bl0 W2) (.cells #[.int .i64 x, .int .i64 y] 26)))).grown hgrow (fun i e => .inl (hlow i e))
          have c09 := hk3.cell s0 (by omega) (by omega)
          refine ⟨c09, ?_⟩
          try simp only [Act.put, List.setIfInBounds_toArray, List.set_cons_zero, List.set_cons_succ]
          first
            | (refine' ordS_take (i := 12) (oi := { dst := some 11, op := Op.assign (Operand.tmp 85), type := 38, pos := _, after := #[{ on := 11, ground := Ground.data }, { on := 11, ground := Ground.chain }, { on := 0, ground := Ground.phase }, { on := 1, ground := Ground.phase }, { on := 2, ground := Ground.phase }, { on := 3, ground := Ground.phase }, { on := 4, ground := Ground.phase }, { on := 5, ground := Ground.phase }, { on := 6, ground := Ground.phase }, { on := 7, ground := Ground.phase }, { on := 8, ground := Ground.phase }, { on := 9, ground := Ground.phase }, { on := 10, ground := Ground.phase }, { on := 11, ground := Ground.phase }], guard := none }) (v := _) rfl (by kernel_rfl) (by kernel_rfl) (by kernel_rfl) (by kernel_rfl) (fun _ _ _ h => h) (by assumption) (Or.inl ⟨by rfl, ?hy23⟩) (fun _ => rfl) ?rest23
               case hy23 => (intro w hSw; (try dsimp only at hSw); go_simp; try with_reducible rfl))
            | (refine ordS_take (i := 12) (oi := { dst := some 11, op := Op.assign (Operand.tmp 85), type := 38, pos := _, after := #[{ on := 11, ground := Ground.data }, { on := 11, ground := Ground.chain }, { on := 0, ground := Ground.phase }, { on := 1, ground := Ground.phase }, { on := 2, ground := Ground.phase }, { on := 3, ground := Ground.phase }, { on := 4, ground := Ground.phase }, { on := 5, ground := Ground.phase }, { on := 6, ground := Ground.phase }, { on := 7, ground := Ground.phase }, { on := 8, ground := Ground.phase }, { on := 9, ground := Ground.phase }, { on := 10, ground := Ground.phase }, { on := 11, ground := Ground.phase }], guard := none }) (v := undef) rfl (by kernel_rfl) (by kernel_rfl) (by kernel_rfl) (by kernel_rfl) (fun _ _ _ h => h) (by assumption) (Or.inr ⟨by rfl, rfl⟩) (fun _ => rfl) ?_)
          try simp only [Act.put, List.setIfInBounds_toArray, List.set_cons_zero, List.set_cons_succ]
          refine ordS_done (by kernel_rfl) ?_
          have PI : Hid (RMI W C g h n cap A B k fs bs rs (j + 1) v' w9) := Lib.hid (by
            unfold RMI
            rw [HS.out]
            refine ⟨hk3, hm3, ?_⟩
            rw [← flatC_snoc (mergeN A fs bs rs j).2 (x, y)] at hown'
            dsimp only
            rw [List.length_append]
            exact hown')
          clear hgrow hown2 hown' hm2 hm3 hk2 hk3 c09 c0d P1 P3 PK
          go_wp2
          go_roundw
          case rel => exact ⟨j + 1, by omega, by go_num, PI⟩
          case measure => simp [intOf]; omega
    · have hge : (n : Int) ≤ (j : Int) := by omega
      obtain rfl : j = n := by omega
      obtain ⟨a', cap', ho, hrc⟩ := rowC_of_own (HI.out).2.2
      obtain ⟨L, hL⟩ : ∃ L, (mergeN A fs bs rs j).2.length = L := ⟨_, rfl⟩
      rw [hL] at ho
      subst ho
      have hbase : ∀ gb o, a' = some ⟨gb, o, none⟩ → w.heap.size ≤ gb := fun gb o e => by
        subst e
        have := ((HI.out).2.2.lt gb rfl).1
        omega
      have HRC := Lib.hid hrc
      have HBS := Lib.hid hbase
      have hkw : KeptT g h w wr := (keptT_of_below HAW.out).trans (HI.out).1.widen
      have HKW := Lib.hid hkw
      have hle : L ≤ j := by rw [← hL]; exact (mergeN_len A fs bs rs j).2
      have HLL := Lib.hid hL
      clear hrc hbase hkw hlt hj hL
      by_cases he : L = 0
      · subst he
        have HE : Hid ((mergeN A fs bs rs j).2 = []) := Lib.hid (List.eq_nil_of_length_eq_zero HLL.out)
        go_wp2
        go_ret2
        refine ⟨a', cap', by rw [HLL.out]; rfl, HRC.out, HBS.out, ?_, HKW.out⟩
        rw [if_pos HE.out]
        exact (HI.out).2.1
      · have hposI : (0 : Int) < (L : Int) := by omega
        have hL6 : (L : Int) ≤ 65536 := by omega
        have HE : Hid (¬ (mergeN A fs bs rs j).2 = []) := Lib.hid (fun e => he (by rw [← HLL.out, e]; rfl))
        have d3 := (HI.out).2.1.c3
        have f3 := (HI.out).2.1.fz 3
        have hv := (HI.out).2.1.ver (k + 1)
        have HV := Lib.hid hv
        have hkp : IntKind.i64.wrap (k + 1) = k + 1 := IntWalk.i64_in _ (by omega)
        clear he hv
        go_wp2
        go_ret2
        refine ⟨a', cap', by rw [HLL.out]; rfl, ?_, HBS.out, ?_, (HKW.out).trans (HV.out).2.widen2⟩
        · exact ((HI.out).2.2.kept (grown_set wr g 3 (.int .i64 (k + 1))) (.inr (fun e => by have := ((HI.out).2.2.lt g e).1; omega)) |> rowC_of_own |> fun ⟨a2, c2, e, h⟩ => by cases e; exact h)
        · rw [if_neg HE.out]
          exact (HV.out).1
end Go.Proofs.Ytccokdfkmppohaa
