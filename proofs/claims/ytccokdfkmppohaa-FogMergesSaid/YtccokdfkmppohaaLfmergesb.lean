/- FogMerges: the walk of the law where the size may be and the looks are few. -/
import Derived.Test.YtccokdfkmppohaaLfmerges
import Derived.Test.YtccokdfkmppohaaBk
import Derived.Test.YtccokdfkmppohaaBl
namespace Go.Proofs.Ytccokdfkmppohaa
open Go.RowKit Go.Shelf
attribute [local go_sem] Oper.semAt_some

/-- What a look's round holds besides the two fogs. -/
structure LookI (w : World) (gb off X0 : Nat) (A B : Int) (fv qv : Value) (X Y x y : Int) (W : World) : Prop where
  hA : Below w.heap.size w W
  t0 : W.cell? ⟨X0, 0, none⟩ = some (.int .i64 A)
  t1 : W.cell? ⟨X0, 1, none⟩ = some (.int .i64 B)
  t2 : W.cell? ⟨X0, 2, none⟩ = some fv
  q3 : W.cell? ⟨gb, off, none⟩ = some qv
  f0 : W.cell? ⟨w.heap.size, 0, none⟩ = some (.int .i64 X)
  f1 : W.cell? ⟨w.heap.size, 1, none⟩ = some (.int .i64 Y)
  p0 : W.cell? ⟨w.heap.size + 1, 0, none⟩ = some (.int .i64 x)
  p1 : W.cell? ⟨w.heap.size + 1, 1, none⟩ = some (.int .i64 y)
theorem LookI.below {w : World} {gb off X0 : Nat} {A B : Int} {fv qv : Value} {X Y x y : Int} {W W' : World} (h : LookI w gb off X0 A B fv qv X Y x y W) (b : Below W.heap.size W W') : LookI w gb off X0 A B fv qv X Y x y W' :=
  ⟨bl_tr h.hA b, cell_later b h.t0, cell_later b h.t1, cell_later b h.t2, cell_later b h.q3, cell_later b h.f0, cell_later b h.f1, cell_later b h.p0, cell_later b h.p1⟩
theorem LookI.kept {w : World} {gb off X0 g h : Nat} {A B : Int} {fv qv : Value} {X Y x y : Int} {W W' : World} (l : LookI w gb off X0 A B fv qv X Y x y W) (k : KeptT g h W W') (h1 : w.heap.size + 2 ≤ g ∧ w.heap.size + 2 ≤ h ∧ g < X0 ∧ h < X0 ∧ gb < w.heap.size) : LookI w gb off X0 A B fv qv X Y x y W' := by
  obtain ⟨e1, e2, e3, e4, e5⟩ := h1
  exact ⟨KeptT.below l.hA (Nat.le_refl _) k (by omega) (by omega), k.cell l.t0 (by omega) (by omega), k.cell l.t1 (by omega) (by omega), k.cell l.t2 (by omega) (by omega), k.cell l.q3 (by omega) (by omega), k.cell l.f0 (by omega) (by omega), k.cell l.f1 (by omega) (by omega), k.cell l.p0 (by omega) (by omega), k.cell l.p1 (by omega) (by omega)⟩
set_option maxRecDepth 100000 in
set_option maxHeartbeats 12800000 in
theorem fmerges_yes (X Y x y : Int) (a : Option Addr) (cap : Nat) (ls : List LookD) (w : World) (hr : RowL w a ls) (hu : ∀ l ∈ ls, AllH l.fs) (h1 : fewB X Y ls = true) (h2 : mayB X Y = true) :
    Calls Try.prog 3 #[.agg #[.int .i64 X, .int .i64 Y], .slice a ls.length cap, .agg #[.int .i64 x, .int .i64 y]] w fun e w' => e = .returned (.bool true) ∧ Below w.heap.size w w' := by
  have hA := bl0 w
  obtain ⟨hms0, hl20, hok⟩ := few_iff h1
  clear hms0
  have hl2 : (ls.length : Int) ≤ 20 := by omega
  have hab := area_bd h2
  obtain ⟨N, hN⟩ : ∃ N : Nat, (N : Int) = X * Y := ⟨(X * Y).toNat, by omega⟩
  have HN := Lib.hid (show (X * Y).toNat = N by omega)
  have HNN := Lib.hid hN
  have hN6 : N ≤ 65536 := by omega
  have hnew := fun w => fnew_yes X Y w h2 N hN
  have hnewr := fun w => rfnew_row X Y w h2 N hN
  have H1 := Lib.hid h1
  have H2 := Lib.hid h2
  have HOK := Lib.hid hok
  have HU := Lib.hid hu
  clear h1 h2 hab hok hN hu
  go_enter Try.func3, Try.ntmps3
  go_wp2_with fail
  refine (few_any _ _ _ _ _ _ (hr.below (by first | exact hA | exact (bl_al hA _) | exact (bl_dr (bl_al hA _)) | exact (bl_al (bl_al hA _) _) | exact (bl_dr (bl_al (bl_al hA _) _)) | exact (bl_al (bl_al (bl_al hA _) _) _) | exact (bl_dr (bl_al (bl_al (bl_al hA _) _) _)) | exact (bl_al (bl_al (bl_al (bl_al hA _) _) _) _) | exact (bl_dr (bl_al (bl_al (bl_al (bl_al hA _) _) _) _)) | exact (bl_al (bl_al (bl_al (bl_al (bl_al hA _) _) _) _) _) | exact (bl_dr (bl_al (bl_al (bl_al (bl_al (bl_al hA _) _) _) _) _)) | exact (bl_al (bl_al (bl_al (bl_al (bl_al (bl_al hA _) _) _) _) _) _) | exact (bl_dr (bl_al (bl_al (bl_al (bl_al (bl_al (bl_al hA _) _) _) _) _) _)) | exact (bl_dr hA)))).mono ?_
  rintro e w1 ⟨rfl, hb⟩
  have hk : Below w.heap.size w w1 := by first | exact hb | exact bl_tr (bl_al (bl0 _) _) hb | exact bl_tr (bl_dr (bl_al (bl0 _) _)) hb | exact bl_tr (bl_al (bl_al (bl0 _) _) _) hb | exact bl_tr (bl_dr (bl_al (bl_al (bl0 _) _) _)) hb | exact bl_tr (bl_al (bl_al (bl_al (bl0 _) _) _) _) hb | exact bl_tr (bl_dr (bl_al (bl_al (bl_al (bl0 _) _) _) _)) hb | exact bl_tr (bl_al (bl_al (bl_al (bl_al (bl0 _) _) _) _) _) hb | exact bl_tr (bl_dr (bl_al (bl_al (bl_al (bl_al (bl0 _) _) _) _) _)) hb | exact bl_tr (bl_al (bl_al (bl_al (bl_al (bl_al (bl0 _) _) _) _) _) _) hb | exact bl_tr (bl_dr (bl_al (bl_al (bl_al (bl_al (bl_al (bl0 _) _) _) _) _) _)) hb | exact bl_tr (bl_al (bl_al (bl_al (bl_al (bl_al (bl_al (bl0 _) _) _) _) _) _) _) hb | exact bl_tr (bl_dr (bl_al (bl_al (bl_al (bl_al (bl_al (bl_al (bl0 _) _) _) _) _) _) _)) hb | exact bl_tr (bl_dr (bl0 _)) hb
  replace hA := bl_tr hA hk
  have f0 := cell_later hb (v := .int .i64 X) (a := ⟨w.heap.size, 0, none⟩) (by simp [go_sem])
  have f1 := cell_later hb (v := .int .i64 Y) (a := ⟨w.heap.size, 1, none⟩) (by simp [go_sem])
  have p0 := cell_later hb (v := .int .i64 x) (a := ⟨w.heap.size + 1, 0, none⟩) (by simp [go_sem])
  have p1 := cell_later hb (v := .int .i64 y) (a := ⟨w.heap.size + 1, 1, none⟩) (by simp [go_sem])
  clear hb hk
  have zf0 := blk_lt f0
  have zf1 := blk_lt f1
  have zp0 := blk_lt p0
  have zp1 := blk_lt p1
  rw [H1.out]
  go_wp2_with fail
  refine (hnew _).mono ?_
  clear hnew
  rintro e w2 ⟨g, h, rfl, hf, hb⟩
  have z1 := hA.size
  have hA2 := bl_tr hA hb
  replace f0 := cell_later hb f0
  replace f1 := cell_later hb f1
  replace p0 := cell_later hb p0
  replace p1 := cell_later hb p1
  have hgB := hf.1
  have hhB := hf.lt.2.1
  have hg2 := hf.lt.1
  have hh2 := hf.lt.2.2
  have zp := blk_lt p0
  have HF2 := Lib.hid hf
  clear hb hA hf
  go_wp2_with fail
  refine (hnewr _).mono ?_
  clear hnewr
  rintro e w3 ⟨gr, hr0, capr, rfl, hrf, hb⟩
  have hrB := hrf.hlt.1
  have hA3 := bl_tr hA2 hb
  have hrgB := hrf.1
  replace f0 := cell_later hb f0
  replace f1 := cell_later hb f1
  replace p0 := cell_later hb p0
  replace p1 := cell_later hb p1
  have e1 : looksL X Y (ls.take 0) = (List.replicate N none, 0) := by rw [← HN.out]; rfl
  have e2 : costR (List.replicate N none) = List.replicate N (-1) := by simp [costR]
  obtain ⟨B2, hB2⟩ : ∃ B2, w2.heap.size = B2 := ⟨_, rfl⟩
  rw [hB2] at hrf hg2 hh2 hrB hrgB
  have hI : MergesI w B2 g h N gr hr0 capr X Y x y ls 0 w3 := by
    refine ⟨?_, ?_, hA3, f0, f1, p0, p1⟩
    · rw [e1]
      exact (fog_same (HF2.out) (by omega)).below hb
    · rw [e1]
      dsimp only
      rw [e2]
      exact hrf
  have hgb2 : w.heap.size + 2 ≤ g := by omega
  have hhb2 : w.heap.size + 2 ≤ h := by omega
  have HI := Lib.hid hI
  clear hb hrf hA2 hA3 hgB hhB hI e1 e2 f0 f1 p0 p1 HF2 hB2
  go_wp2
  go_loopw [10] (fun i wr => ∃ k : Nat, k ≤ ls.length ∧ i = .int .i64 k ∧ Hid (MergesI w B2 g h N gr hr0 capr X Y x y ls k wr)) (fun i _ => ls.length - (intOf i).toNat)
  case atStart => exact ⟨0, Nat.zero_le _, rfl, HI⟩
  case round =>
    obtain ⟨k, hk, rfl, HM⟩ := hrel
    obtain ⟨F, R, hAr, f0, f1, p0, p1⟩ := HM.out
    clear HI HM
    by_cases hlt : k < ls.length
    · have hlt2 : (k : Int) < (ls.length : Int) := by omega
      have hk0 : (0 : Int) ≤ (k : Int) := by omega
      obtain ⟨l, hl⟩ : ∃ l, ls[k]? = some l := ⟨_, List.getElem?_eq_getElem hlt⟩
      have hmem := List.mem_of_getElem? hl
      obtain ⟨gb, go, rfl, q0, q1, q2, q3, qh, qc⟩ := hr.cell hl
      have hzl := (okL_iff (HOK.out l hmem)).2
      have HUL := Lib.hid (HU.out l hmem)
      have hTK : ls.take (k + 1) = ls.take k ++ [l] := by rw [List.take_add_one, hl]; rfl
      have hS : looksL X Y (ls.take (k + 1)) = stepL X Y (looksL X Y (ls.take k)) l := by rw [hTK]; exact looksL_snoc X Y _ l
      have hah : ∀ m, w.heap.size ≤ m → ∀ gb o, l.fs ≠ [] → l.a = some ⟨gb, o, none⟩ → gb ≠ m := by
        rintro m hm gb o hne e rfl
        rcases qh with h0 | ⟨b', o', e', h'⟩
        · exact hne h0
        · rw [e] at e'
          cases e'
          have hp := List.length_pos_iff.2 hne
          have := blk_lt (h' 0 _ (List.getElem?_eq_getElem hp))
          omega
      have zq := blk_lt q0
      have QH := Lib.hid qh
      have QC := Lib.hid qc
      have HAH := Lib.hid hah
      replace q0 := cell_later hAr q0
      replace q1 := cell_later hAr q1
      replace q2 := cell_later hAr q2
      replace q3 := cell_later hAr q3
      have hv := looksL_ver X Y (ls.take k)
      have hlen := looksL_size X Y (ls.take k)
      rw [HN.out] at hlen
      have hvl : (ls.take k).length ≤ 20 := Nat.le_trans (List.length_take_le' _ _) (by omega)
      have HKA := Lib.hid (allK_looks (X := X) (Y := Y) (ls := ls.take k) (fun y hy => HU.out y (List.mem_of_mem_take hy)))
      have HKB := Lib.hid (allK_looks (X := X) (Y := Y) (ls := ls.take (k + 1)) (fun y hy => HU.out y (List.mem_of_mem_take hy)))
      obtain ⟨⟨ms, v⟩, hs⟩ : ∃ s, looksL X Y (ls.take k) = s := ⟨_, rfl⟩
      rw [hs] at F R hS hv hlen HKA
      obtain ⟨A, B, fa, fc, fs, ca, cc, zs⟩ := l
      dsimp only [stepL] at F R q0 q1 q2 q3 hzl hS hv hlen
      have HSS := Lib.hid hS
      have HF := Lib.hid F
      have HR := Lib.hid R
      have HL := Lib.hid hlen
      have hgr : g ≠ gr ∧ g ≠ hr0 ∧ h ≠ gr ∧ h ≠ hr0 := by omega
      clear hTK hS qh qc hah hmem hl hs F R hlen
      go_upto_region 13 with fail
      obtain ⟨wb, hwb⟩ : ∃ wb, wr.alloc (.cells #[.int .i64 A, .int .i64 B, .slice fa fs.length fc] 37) = wb := ⟨_, rfl⟩
      have hbb : Below wr.heap.size wr wb := by rw [← hwb]; exact bl_al (bl0 wr) _
      have r0 : FAt wb wr.heap.size (.int .i64 A) (.int .i64 B) (.slice fa fs.length fc) := by rw [← hwb]; exact fAt_new _ _ _ _
      rw [hwb]
      have hgx := (HF.out).lt.1
      have hhx := (HF.out).lt.2.2
      have hgrx := (HR.out).lt
      have hhrx := (HR.out).hlt.2
      have HFb := Lib.hid ((HF.out).below hbb)
      have HRb := Lib.hid ((HR.out).below hbb)
      obtain ⟨X0, hX0⟩ : ∃ n, wr.heap.size = n := ⟨_, rfl⟩
      rw [hX0] at r0 hgx hhx hgrx hhrx ⊢
      have L0 : LookI w gb (go + k * 4 + 3) X0 A B (.slice fa fs.length fc) (.slice ca zs.length cc) X Y x y wb := ⟨bl_tr hAr hbb, r0.c0, r0.c1, r0.c2, cell_later hbb q3, cell_later hbb f0, cell_later hbb f1, cell_later hbb p0, cell_later hbb p1⟩
      have HW1 := Lib.hid (show w.heap.size + 2 ≤ g ∧ w.heap.size + 2 ≤ h ∧ g < X0 ∧ h < X0 ∧ gb < w.heap.size from ⟨hgb2, hhb2, hgx, hhx, zq⟩)
      have hgrB : w.heap.size + 2 ≤ gr ∧ w.heap.size + 2 ≤ hr0 := by omega
      have HW2 := Lib.hid (show w.heap.size + 2 ≤ gr ∧ w.heap.size + 2 ≤ hr0 ∧ gr < X0 ∧ hr0 < X0 ∧ gb < w.heap.size from ⟨hgrB.1, hgrB.2, hgrx, hhrx, zq⟩)
      have HXW := Lib.hid (show X0 ≤ wb.heap.size from by rw [← hX0]; exact hbb.size)
      have hbs := blk_lt L0.q3
      have hv1 : 0 ≤ v := hv.1
      have hv2 : v ≤ 1048575 := by omega
      have HV := Lib.hid (show v ≤ 1048576 ∧ 0 ≤ v from ⟨by omega, hv1⟩)
      have HGR := Lib.hid hgr
      have HLN := Lib.hid (show (ms.length : Int) = X * Y by rw [HL.out]; exact HNN.out)
      have HZL := Lib.hid (show zs.length ≤ 1000 by omega)
      have hnew := look_newlen (X := X) (Y := Y) (fs := fs) (ms := ms) (A := A) (B := B) (bs := setL A B zs) (fun hm => setL_good hm zs)
      obtain ⟨E, hE⟩ : ∃ E, lookE X Y A B fs.length = E := ⟨_, rfl⟩
      obtain ⟨ns, hns⟩ : ∃ ns, (lookS X Y A B fs (setL A B zs) ms).2 = ns := ⟨_, rfl⟩
      obtain ⟨ms2, hms2⟩ : ∃ ns, (lookS X Y A B fs (setL A B zs) ms).1 = ns := ⟨_, rfl⟩
      obtain ⟨v2, hv2'⟩ : ∃ v2, v + (if ns = [] then 0 else 1) = v2 := ⟨_, rfl⟩
      have HS2 := Lib.hid (show looksL X Y (ls.take (k + 1)) = (ms2, v2) from by rw [HSS.out, ← hms2, ← hv2', ← hns])
      have HNL := Lib.hid (show ns.length ≤ 100000 by rw [← hns]; exact hnew)
      have HE := Lib.hid hE
      have HNS := Lib.hid hns
      have HMS := Lib.hid hms2
      have HV2 := Lib.hid hv2'
      have HK2 := Lib.hid (show AllK ms2 from by have := HKB.out; rw [HS2.out] at this; exact this)
      have HL2 := Lib.hid (show ms2.length = N from by have := looksL_size X Y (ls.take (k + 1)); rw [HS2.out, HN.out] at this; exact this)
      have HL0 := Lib.hid L0
      clear hnew r0 hX0 hwb hbb HF HR q0 q1 q2 q3 f0 f1 p0 p1 hAr hgx hhx hgrx hhrx hgrB hgr hv hv1 hv2 hE hns hms2 hv2' L0 hgb2 hhb2 hvl hzl hg2 hh2 hrB hrgB
      have hD := bl_dr (bl0 wb)
      have HL1 := Lib.hid (HL0.out.below hD)
      have HF1 := Lib.hid (HFb.out.below hD)
      have HR1 := Lib.hid (HRb.out.below hD)
      refine (wpIn_wide (n := 11)).1 ?_
      refine ordS_begin (S := (fun w' : World => w'.cell? ⟨X0, 0, none⟩ = some (.int .i64 A) ∧ w'.cell? ⟨X0, 1, none⟩ = some (.int .i64 B) ∧ w'.cell? ⟨X0, 2, none⟩ = some (.slice fa fs.length fc) ∧ w'.cell? ⟨gb, go + k * 4 + 3, none⟩ = some (.slice ca zs.length cc))) (by kernel_rfl) ⟨HL1.out.t0, HL1.out.t1, HL1.out.t2, HL1.out.q3⟩ (fun hH => ?_)
      refine' ordS_take (i := 0) (oi := { dst := some 62, op := Op.fieldAddr 37 (Operand.tmp 11) 0, type := 0, pos := _, after := #[], guard := none }) (v := _) rfl (by kernel_rfl) (by kernel_rfl) (by kernel_rfl) (by kernel_rfl) (fun _ _ _ h => h) (by assumption) (Or.inl ⟨by rfl, ?hy1⟩) (fun _ => rfl) ?rest1
      case hy1 => (intro w hSw; (try dsimp only at hSw); go_simp; try with_reducible rfl)
      try simp only [Act.put, List.setIfInBounds_toArray, List.set_cons_zero, List.set_cons_succ]
      refine' ordS_take (i := 1) (oi := { dst := some 63, op := Op.load 23 (Operand.tmp 62), type := 23, pos := _, after := #[{ on := 0, ground := Ground.data }], guard := none }) (v := _) rfl (by kernel_rfl) (by kernel_rfl) (by kernel_rfl) (by kernel_rfl) (fun _ _ _ h => h) (by assumption) (Or.inl ⟨by rfl, ?hy2⟩) (fun _ => rfl) ?rest2
      case hy2 => (intro w hSw; (try dsimp only at hSw); go_simp; try with_reducible rfl)
      try simp only [Act.put, List.setIfInBounds_toArray, List.set_cons_zero, List.set_cons_succ]
      refine' ordS_take (i := 2) (oi := { dst := some 64, op := Op.move (Operand.tmp 1), type := 24, pos := _, after := #[], guard := none }) (v := _) rfl (by kernel_rfl) (by kernel_rfl) (by kernel_rfl) (by kernel_rfl) (fun _ _ _ h => h) (by assumption) (Or.inl ⟨by rfl, ?hy3⟩) (fun _ => rfl) ?rest3
      case hy3 => (intro w hSw; (try dsimp only at hSw); go_simp; try with_reducible rfl)
      try simp only [Act.put, List.setIfInBounds_toArray, List.set_cons_zero, List.set_cons_succ]
      refine' ordS_take (i := 3) (oi := { dst := some 65, op := Op.move (Operand.tmp 10), type := 3, pos := _, after := #[], guard := none }) (v := _) rfl (by kernel_rfl) (by kernel_rfl) (by kernel_rfl) (by kernel_rfl) (fun _ _ _ h => h) (by assumption) (Or.inl ⟨by rfl, ?hy4⟩) (fun _ => rfl) ?rest4
      case hy4 => (intro w hSw; (try dsimp only at hSw); go_simp; try with_reducible rfl)
      try simp only [Act.put, List.setIfInBounds_toArray, List.set_cons_zero, List.set_cons_succ]
      refine' ordS_take (i := 4) (oi := { dst := some 66, op := Op.indexAddr 24 (Operand.tmp 64) (Operand.tmp 65), type := 0, pos := _, after := #[{ on := 2, ground := Ground.data }, { on := 3, ground := Ground.data }], guard := none }) (v := _) rfl (by kernel_rfl) (by kernel_rfl) (by kernel_rfl) (by kernel_rfl) (fun _ _ _ h => h) (by assumption) (Or.inl ⟨by rfl, ?hy5⟩) (fun _ => rfl) ?rest5
      case hy5 => (intro w hSw; (try dsimp only at hSw); go_simp; try with_reducible rfl)
      try simp only [Act.put, List.setIfInBounds_toArray, List.set_cons_zero, List.set_cons_succ]
      refine' ordS_take (i := 5) (oi := { dst := some 67, op := Op.fieldAddr 40 (Operand.tmp 66) 1, type := 0, pos := _, after := #[{ on := 4, ground := Ground.data }], guard := none }) (v := _) rfl (by kernel_rfl) (by kernel_rfl) (by kernel_rfl) (by kernel_rfl) (fun _ _ _ h => h) (by assumption) (Or.inl ⟨by rfl, ?hy6⟩) (fun _ => rfl) ?rest6
      case hy6 => (intro w hSw; (try dsimp only at hSw); go_simp; try with_reducible rfl)
      try simp only [Act.put, List.setIfInBounds_toArray, List.set_cons_zero, List.set_cons_succ]
      refine' ordS_take (i := 6) (oi := { dst := some 68, op := Op.load 38 (Operand.tmp 67), type := 38, pos := _, after := #[{ on := 5, ground := Ground.data }], guard := none }) (v := _) rfl (by kernel_rfl) (by kernel_rfl) (by kernel_rfl) (by kernel_rfl) (fun _ _ _ h => h) (by assumption) (Or.inl ⟨by rfl, ?hy7⟩) (fun _ => rfl) ?rest7
      case hy7 => (intro w hSw; (try dsimp only at hSw); go_simp; try with_reducible rfl)
      try simp only [Act.put, List.setIfInBounds_toArray, List.set_cons_zero, List.set_cons_succ]
      refine ordS_one (i := 7) (o := { dst := some 69, op := Op.call { callee := Callee.value (Operand.func 8), args := #[Operand.tmp 63, Operand.tmp 68], argTypes := #[23, 38] }, type := 41, pos := _, after := #[{ on := 1, ground := Ground.data }, { on := 6, ground := Ground.data }], guard := none }) (by kernel_rfl) rfl (by rfl) (fun K hK => ?_)
      go_simp
      refine ⟨trivial, (callsIn_wide.2 (fset_any A B ca cc zs _ (QC.out.below HL1.out.hA) (Nat.le_trans HZL.out (by decide)))).mono ?_⟩
      rintro e w4 ⟨p, rfl, hmp, hb4⟩
      have HL4 := Lib.hid (HL1.out.below hb4)
      have HF4 := Lib.hid (HF1.out.below hb4)
      have HR4 := Lib.hid (HR1.out.below hb4)
      have HB4 := Lib.hid (bl_tr hD hb4)
      have HMP := Lib.hid hmp
      have hc4 := And.intro HL4.out.t0 (And.intro HL4.out.t1 (And.intro HL4.out.t2 HL4.out.q3))
      refine hK _ _ hc4 ?_
      clear hK K hH hmp hb4 hD
      try simp only [Act.put, List.setIfInBounds_toArray, List.set_cons_zero, List.set_cons_succ]
      have hH := hc4
      refine' ordS_take (i := 8) (oi := { dst := some 12, op := Op.assign (Operand.tmp 69), type := 41, pos := _, after := #[{ on := 7, ground := Ground.data }, { on := 7, ground := Ground.chain }, { on := 0, ground := Ground.phase }, { on := 1, ground := Ground.phase }, { on := 2, ground := Ground.phase }, { on := 3, ground := Ground.phase }, { on := 4, ground := Ground.phase }, { on := 5, ground := Ground.phase }, { on := 6, ground := Ground.phase }, { on := 7, ground := Ground.phase }], guard := none }) (v := _) rfl (by kernel_rfl) (by kernel_rfl) (by kernel_rfl) (by kernel_rfl) (fun _ _ _ h => h) (by assumption) (Or.inl ⟨by rfl, ?hy8⟩) (fun _ => rfl) ?rest8
      case hy8 => (intro w hSw; (try dsimp only at hSw); go_simp; try with_reducible rfl)
      try simp only [Act.put, List.setIfInBounds_toArray, List.set_cons_zero, List.set_cons_succ]
      refine ordS_done (by kernel_rfl) ?_
      clear hH hc4
      obtain ⟨t0, t1, t2⟩ := And.intro HL4.out.t0 (And.intro HL4.out.t1 HL4.out.t2)
      have zt := blk_lt t0
      go_wp2_with fail
      refine (merge_any _ g h N X Y v ms A B fa fc fs (setL A B zs) p _ w4 (QH.out.below HL4.out.hA) (HAH.out h (Nat.le_trans (Nat.le_add_right _ 2) HW1.out.2.1)) HF4.out HLN.out HMP.out HF1.out.lt.2.2 HV.out.1 HV.out.2).mono ?_
      rintro e w5 ⟨a5, c5, rfl, hk5r, hk5n, hf5, hk5⟩
      rw [HE.out, HNS.out]
      rw [HNS.out] at hk5r
      rw [HNS.out, HMS.out, HV2.out] at hf5
      have HL5 := Lib.hid (HL4.out.kept hk5 HW1.out)
      have HF5 := Lib.hid hf5
      have HR5 := Lib.hid (HR4.out.keptT hk5 HGR.out.1.symm HGR.out.2.2.1.symm HGR.out.2.1.symm HGR.out.2.2.2.symm)
      have HK5 := Lib.hid hk5r
      have HN5 := Lib.hid hk5n
      clear hk5r hk5n hf5 hk5 t0 t1 t2 zt
      rcases HMP.out with ⟨hm, rfl⟩ | ⟨hm, _, b, _, rfl, _⟩
      · have hE2 : E = 2 := by rw [← HE.out]; unfold lookE; rw [if_pos hm]
        have hoff : lookS X Y A B fs (setL A B zs) ms = (ms, []) := by unfold lookS; rw [if_neg (by rw [HE.out, hE2]; decide)]
        have hn0 : ns = [] := by rw [← HNS.out, hoff]
        have hm0 : ms2 = ms := by rw [← HMS.out, hoff]
        have hv0 : v2 = v := by rw [← HV2.out, if_pos hn0, Int.add_zero]
        have HI5 := Lib.hid (show MergesI w B2 g h N gr hr0 capr X Y x y ls (k + 1) w5 from ⟨by rw [HS2.out]; exact HF5.out, by rw [HS2.out, hm0, hv0]; exact HR5.out, HL5.out.hA, HL5.out.f0, HL5.out.f1, HL5.out.p0, HL5.out.p1⟩)
        subst hE2 hn0
        clear hoff hm0 hv0 hm
        go_wp2
        go_roundw
        case rel => exact ⟨k + 1, by omega, by go_num, HI5⟩
        case measure => simp [intOf]; omega
      · have hmab := area_bd hm
        obtain ⟨m, hmm⟩ : ∃ m : Nat, (m : Int) = A * B := ⟨(A * B).toNat, by omega⟩
        have HMM := Lib.hid hmm
        have HM := Lib.hid hm
        clear hmm hm hmab HF4 HR4 HF1 HR1 HL1 HL0 HFb HRb
        have hbz := blk_lt HL5.out.q3
        go_upto_region 18 with fail
        clear hbz
        have hD := bl_dr (bl0 w5)
        have HL6 := Lib.hid (HL5.out.below hD)
        have HF6 := Lib.hid (HF5.out.below hD)
        have HR6 := Lib.hid (HR5.out.below hD)
        have HK6 := Lib.hid (HK5.out.below hD)
        have HGZ := Lib.hid (show gr < w4.heap.size ∧ hr0 < w4.heap.size from ⟨Nat.lt_of_lt_of_le HW2.out.2.2.1 (Nat.le_trans HXW.out HB4.out.size), Nat.lt_of_lt_of_le HW2.out.2.2.2.1 (Nat.le_trans HXW.out HB4.out.size)⟩)
        refine (wpIn_wide (n := 11)).1 ?_
        refine ordS_begin (S := (fun w' : World => w'.cell? ⟨X0, 0, none⟩ = some (.int .i64 A) ∧ w'.cell? ⟨X0, 1, none⟩ = some (.int .i64 B) ∧ w'.cell? ⟨X0, 2, none⟩ = some (.slice fa fs.length fc) ∧ w'.cell? ⟨gb, go + k * 4 + 3, none⟩ = some (.slice ca zs.length cc))) (by kernel_rfl) ⟨HL6.out.t0, HL6.out.t1, HL6.out.t2, HL6.out.q3⟩ (fun hH => ?_)
        refine' ordS_take (i := 0) (oi := { dst := some 87, op := Op.move (Operand.tmp 9), type := 33, pos := _, after := #[], guard := none }) (v := _) rfl (by kernel_rfl) (by kernel_rfl) (by kernel_rfl) (by kernel_rfl) (fun _ _ _ h => h) (by assumption) (Or.inl ⟨by rfl, ?hy9⟩) (fun _ => rfl) ?rest9
        case hy9 => (intro w hSw; (try dsimp only at hSw); go_simp; try with_reducible rfl)
        try simp only [Act.put, List.setIfInBounds_toArray, List.set_cons_zero, List.set_cons_succ]
        refine' ordS_take (i := 1) (oi := { dst := some 88, op := Op.load 37 (Operand.tmp 11), type := 37, pos := _, after := #[], guard := none }) (v := _) rfl (by kernel_rfl) (by kernel_rfl) (by kernel_rfl) (by kernel_rfl) (fun _ _ _ h => h) (by assumption) (Or.inl ⟨by rfl, ?hy10⟩) (fun _ => rfl) ?rest10
        case hy10 => (intro w hSw; (try dsimp only at hSw); go_simp; try with_reducible rfl)
        try simp only [Act.put, List.setIfInBounds_toArray, List.set_cons_zero, List.set_cons_succ]
        refine' ordS_take (i := 2) (oi := { dst := some 89, op := Op.fieldAddr 37 (Operand.tmp 11) 0, type := 0, pos := _, after := #[], guard := none }) (v := _) rfl (by kernel_rfl) (by kernel_rfl) (by kernel_rfl) (by kernel_rfl) (fun _ _ _ h => h) (by assumption) (Or.inl ⟨by rfl, ?hy11⟩) (fun _ => rfl) ?rest11
        case hy11 => (intro w hSw; (try dsimp only at hSw); go_simp; try with_reducible rfl)
        try simp only [Act.put, List.setIfInBounds_toArray, List.set_cons_zero, List.set_cons_succ]
        refine' ordS_take (i := 3) (oi := { dst := some 90, op := Op.load 23 (Operand.tmp 89), type := 23, pos := _, after := #[{ on := 2, ground := Ground.data }], guard := none }) (v := _) rfl (by kernel_rfl) (by kernel_rfl) (by kernel_rfl) (by kernel_rfl) (fun _ _ _ h => h) (by assumption) (Or.inl ⟨by rfl, ?hy12⟩) (fun _ => rfl) ?rest12
        case hy12 => (intro w hSw; (try dsimp only at hSw); go_simp; try with_reducible rfl)
        try simp only [Act.put, List.setIfInBounds_toArray, List.set_cons_zero, List.set_cons_succ]
        refine' ordS_take (i := 4) (oi := { dst := some 91, op := Op.fieldAddr 37 (Operand.tmp 11) 0, type := 0, pos := _, after := #[], guard := none }) (v := _) rfl (by kernel_rfl) (by kernel_rfl) (by kernel_rfl) (by kernel_rfl) (fun _ _ _ h => h) (by assumption) (Or.inl ⟨by rfl, ?hy13⟩) (fun _ => rfl) ?rest13
        case hy13 => (intro w hSw; (try dsimp only at hSw); go_simp; try with_reducible rfl)
        try simp only [Act.put, List.setIfInBounds_toArray, List.set_cons_zero, List.set_cons_succ]
        refine' ordS_take (i := 5) (oi := { dst := some 92, op := Op.load 23 (Operand.tmp 91), type := 23, pos := _, after := #[{ on := 4, ground := Ground.data }], guard := none }) (v := _) rfl (by kernel_rfl) (by kernel_rfl) (by kernel_rfl) (by kernel_rfl) (fun _ _ _ h => h) (by assumption) (Or.inl ⟨by rfl, ?hy14⟩) (fun _ => rfl) ?rest14
        case hy14 => (intro w hSw; (try dsimp only at hSw); go_simp; try with_reducible rfl)
        try simp only [Act.put, List.setIfInBounds_toArray, List.set_cons_zero, List.set_cons_succ]
        refine' ordS_take (i := 6) (oi := { dst := some 93, op := Op.move (Operand.tmp 1), type := 24, pos := _, after := #[], guard := none }) (v := _) rfl (by kernel_rfl) (by kernel_rfl) (by kernel_rfl) (by kernel_rfl) (fun _ _ _ h => h) (by assumption) (Or.inl ⟨by rfl, ?hy15⟩) (fun _ => rfl) ?rest15
        case hy15 => (intro w hSw; (try dsimp only at hSw); go_simp; try with_reducible rfl)
        try simp only [Act.put, List.setIfInBounds_toArray, List.set_cons_zero, List.set_cons_succ]
        refine' ordS_take (i := 7) (oi := { dst := some 94, op := Op.move (Operand.tmp 10), type := 3, pos := _, after := #[], guard := none }) (v := _) rfl (by kernel_rfl) (by kernel_rfl) (by kernel_rfl) (by kernel_rfl) (fun _ _ _ h => h) (by assumption) (Or.inl ⟨by rfl, ?hy16⟩) (fun _ => rfl) ?rest16
        case hy16 => (intro w hSw; (try dsimp only at hSw); go_simp; try with_reducible rfl)
        try simp only [Act.put, List.setIfInBounds_toArray, List.set_cons_zero, List.set_cons_succ]
        refine' ordS_take (i := 8) (oi := { dst := some 95, op := Op.indexAddr 24 (Operand.tmp 93) (Operand.tmp 94), type := 0, pos := _, after := #[{ on := 6, ground := Ground.data }, { on := 7, ground := Ground.data }], guard := none }) (v := _) rfl (by kernel_rfl) (by kernel_rfl) (by kernel_rfl) (by kernel_rfl) (fun _ _ _ h => h) (by assumption) (Or.inl ⟨by rfl, ?hy17⟩) (fun _ => rfl) ?rest17
        case hy17 => (intro w hSw; (try dsimp only at hSw); go_simp; try with_reducible rfl)
        try simp only [Act.put, List.setIfInBounds_toArray, List.set_cons_zero, List.set_cons_succ]
        refine' ordS_take (i := 9) (oi := { dst := some 96, op := Op.fieldAddr 40 (Operand.tmp 95) 1, type := 0, pos := _, after := #[{ on := 8, ground := Ground.data }], guard := none }) (v := _) rfl (by kernel_rfl) (by kernel_rfl) (by kernel_rfl) (by kernel_rfl) (fun _ _ _ h => h) (by assumption) (Or.inl ⟨by rfl, ?hy18⟩) (fun _ => rfl) ?rest18
        case hy18 => (intro w hSw; (try dsimp only at hSw); go_simp; try with_reducible rfl)
        try simp only [Act.put, List.setIfInBounds_toArray, List.set_cons_zero, List.set_cons_succ]
        refine' ordS_take (i := 10) (oi := { dst := some 97, op := Op.load 38 (Operand.tmp 96), type := 38, pos := _, after := #[{ on := 9, ground := Ground.data }], guard := none }) (v := _) rfl (by kernel_rfl) (by kernel_rfl) (by kernel_rfl) (by kernel_rfl) (fun _ _ _ h => h) (by assumption) (Or.inl ⟨by rfl, ?hy19⟩) (fun _ => rfl) ?rest19
        case hy19 => (intro w hSw; (try dsimp only at hSw); go_simp; try with_reducible rfl)
        try simp only [Act.put, List.setIfInBounds_toArray, List.set_cons_zero, List.set_cons_succ]
        refine ordS_one (i := 11) (o := { dst := some 98, op := Op.call { callee := Callee.value (Operand.func 11), args := #[Operand.tmp 92, Operand.tmp 97], argTypes := #[23, 38] }, type := 46, pos := _, after := #[{ on := 5, ground := Ground.data }, { on := 10, ground := Ground.data }], guard := none }) (by kernel_rfl) rfl (by rfl) (fun K hK => ?_)
        go_simp
        refine ⟨trivial, (callsIn_wide.2 (lin_any A B ca cc zs _ HM.out m HMM.out (QC.out.below HL6.out.hA) HZL.out)).mono ?_⟩
        rintro e w7 ⟨q, rfl, hq, hqz, hb7⟩
        have HL7 := Lib.hid (HL6.out.below hb7)
        have HF7 := Lib.hid (HF6.out.below hb7)
        have HR7 := Lib.hid (HR6.out.below hb7)
        have HK7 := Lib.hid (HK6.out.below hb7)
        have HQ7 := Lib.hid hq
        have hc7 := And.intro HL7.out.t0 (And.intro HL7.out.t1 (And.intro HL7.out.t2 HL7.out.q3))
        refine hK _ _ hc7 ?_
        clear hK K hH hq hqz hb7 hD
        try simp only [Act.put, List.setIfInBounds_toArray, List.set_cons_zero, List.set_cons_succ]
        refine ordS_one (i := 12) (o := { dst := some 99, op := Op.call { callee := Callee.value (Operand.func 10), args := #[Operand.tmp 87, Operand.tmp 88, Operand.tmp 90, Operand.tmp 98], argTypes := #[33, 37, 23, 46] }, type := 43, pos := _, after := #[{ on := 0, ground := Ground.data }, { on := 1, ground := Ground.data }, { on := 3, ground := Ground.data }, { on := 11, ground := Ground.data }, { on := 11, ground := Ground.chain }], guard := none }) (by kernel_rfl) rfl (by rfl) (fun K hK => ?_)
        go_simp
        refine ⟨trivial, (callsIn_wide.2 (rmerge_any B2 gr hr0 N capr X Y v ms A B fa fc q m fs zs w7 HM.out HMM.out HNN.out HL.out (QH.out.below HL7.out.hA) HUL.out (HAH.out hr0 (Nat.le_trans (Nat.le_add_right _ 2) HW2.out.2.1)) HR7.out HQ7.out HV.out.1 HV.out.2)).mono ?_⟩
        rintro e w8 ⟨a8, c8, rfl, hk8r, hk8n, hf8, hk8⟩
        rw [HE.out, HNS.out]
        rw [HNS.out] at hk8r
        rw [HNS.out, HMS.out, HV2.out] at hf8
        have HL8 := Lib.hid (HL7.out.kept hk8 HW2.out)
        have HF8 := Lib.hid (HF7.out.keptT hk8 HGR.out.1 HGR.out.2.1 HGR.out.2.2.1 HGR.out.2.2.2)
        have HR8 := Lib.hid hf8
        have HK8 := Lib.hid (HK7.out.keptT hk8 (fun gb o e => ⟨fun h => by have h1 := HN5.out gb o e; have h2 := HGZ.out.1; omega, fun h => by have h1 := HN5.out gb o e; have h2 := HGZ.out.2; omega⟩))
        have HJ8 := Lib.hid hk8r
        have hc8 := And.intro HL8.out.t0 (And.intro HL8.out.t1 (And.intro HL8.out.t2 HL8.out.q3))
        refine hK _ _ hc8 ?_
        clear hK K hk8r hk8n hf8 hk8 hc7
        try simp only [Act.put, List.setIfInBounds_toArray, List.set_cons_zero, List.set_cons_succ]
        have hH := hc8
        refine' ordS_take (i := 13) (oi := { dst := some 86, op := Op.move (Operand.tmp 99), type := 43, pos := _, after := #[{ on := 12, ground := Ground.data }], guard := none }) (v := _) rfl (by kernel_rfl) (by kernel_rfl) (by kernel_rfl) (by kernel_rfl) (fun _ _ _ h => h) (by assumption) (Or.inl ⟨by rfl, ?hy20⟩) (fun _ => rfl) ?rest20
        case hy20 => (intro w hSw; (try dsimp only at hSw); go_simp; try with_reducible rfl)
        try simp only [Act.put, List.setIfInBounds_toArray, List.set_cons_zero, List.set_cons_succ]
        refine' ordS_take (i := 14) (oi := { dst := some 100, op := Op.extract (Operand.tmp 86) 0, type := 38, pos := _, after := #[{ on := 13, ground := Ground.data }], guard := none }) (v := _) rfl (by kernel_rfl) (by kernel_rfl) (by kernel_rfl) (by kernel_rfl) (fun _ _ _ h => h) (by assumption) (Or.inl ⟨by rfl, ?hy21⟩) (fun _ => rfl) ?rest21
        case hy21 => (intro w hSw; (try dsimp only at hSw); go_simp; try with_reducible rfl)
        try simp only [Act.put, List.setIfInBounds_toArray, List.set_cons_zero, List.set_cons_succ]
        refine' ordS_take (i := 15) (oi := { dst := some 101, op := Op.extract (Operand.tmp 86) 1, type := 30, pos := _, after := #[{ on := 13, ground := Ground.data }, { on := 16, ground := Ground.gcOnly Departure.lateStores }], guard := none }) (v := _) rfl (by kernel_rfl) (by kernel_rfl) (by kernel_rfl) (by kernel_rfl) (fun _ _ _ h => h) (by assumption) (Or.inl ⟨by rfl, ?hy22⟩) (fun _ => rfl) ?rest22
        case hy22 => (intro w hSw; (try dsimp only at hSw); go_simp; try with_reducible rfl)
        try simp only [Act.put, List.setIfInBounds_toArray, List.set_cons_zero, List.set_cons_succ]
        refine' ordS_take (i := 16) (oi := { dst := some 15, op := Op.assign (Operand.tmp 100), type := 38, pos := _, after := #[{ on := 14, ground := Ground.data }, { on := 12, ground := Ground.chain }, { on := 0, ground := Ground.phase }, { on := 1, ground := Ground.phase }, { on := 2, ground := Ground.phase }, { on := 3, ground := Ground.phase }, { on := 4, ground := Ground.phase }, { on := 5, ground := Ground.phase }, { on := 6, ground := Ground.phase }, { on := 7, ground := Ground.phase }, { on := 8, ground := Ground.phase }, { on := 9, ground := Ground.phase }, { on := 10, ground := Ground.phase }, { on := 11, ground := Ground.phase }, { on := 12, ground := Ground.phase }, { on := 13, ground := Ground.phase }, { on := 14, ground := Ground.phase }, { on := 15, ground := Ground.textOnly Departure.lateStores }], guard := none }) (v := _) rfl (by kernel_rfl) (by kernel_rfl) (by kernel_rfl) (by kernel_rfl) (fun _ _ _ h => h) (by assumption) (Or.inl ⟨by rfl, ?hy23⟩) (fun _ => rfl) ?rest23
        case hy23 => (intro w hSw; (try dsimp only at hSw); go_simp; try with_reducible rfl)
        try simp only [Act.put, List.setIfInBounds_toArray, List.set_cons_zero, List.set_cons_succ]
        refine' ordS_take (i := 17) (oi := { dst := some 16, op := Op.assign (Operand.tmp 101), type := 30, pos := _, after := #[{ on := 15, ground := Ground.data }, { on := 16, ground := Ground.chain }, { on := 0, ground := Ground.phase }, { on := 1, ground := Ground.phase }, { on := 2, ground := Ground.phase }, { on := 3, ground := Ground.phase }, { on := 4, ground := Ground.phase }, { on := 5, ground := Ground.phase }, { on := 6, ground := Ground.phase }, { on := 7, ground := Ground.phase }, { on := 8, ground := Ground.phase }, { on := 9, ground := Ground.phase }, { on := 10, ground := Ground.phase }, { on := 11, ground := Ground.phase }, { on := 12, ground := Ground.phase }, { on := 13, ground := Ground.phase }, { on := 14, ground := Ground.phase }, { on := 15, ground := Ground.phase }, { on := 16, ground := Ground.phase }], guard := none }) (v := _) rfl (by kernel_rfl) (by kernel_rfl) (by kernel_rfl) (by kernel_rfl) (fun _ _ _ h => h) (by assumption) (Or.inl ⟨by rfl, ?hy24⟩) (fun _ => rfl) ?rest24
        case hy24 => (intro w hSw; (try dsimp only at hSw); go_simp; try with_reducible rfl)
        try simp only [Act.put, List.setIfInBounds_toArray, List.set_cons_zero, List.set_cons_succ]
        refine ordS_done (by kernel_rfl) ?_
        clear hH hc8 HL5 HF5 HR5 HK5 HL6 HF6 HR6 HK6 HL7 HF7 HR7 HK7 HQ7 HL4
        have hE0 : (E != E) = false := by simp
        have hv0 : (v2 != v2) = false := by simp
        go_upto_region 19 with fail
        have hD := bl_dr (bl0 w8)
        have HL9 := Lib.hid (HL8.out.below hD)
        have HF9 := Lib.hid (HF8.out.below hD)
        have HR9 := Lib.hid (HR8.out.below hD)
        have HK9 := Lib.hid (HK8.out.below hD)
        have HJ9 := Lib.hid (HJ8.out.below hD)
        refine (wpIn_wide (n := 11)).1 ?_
        refine ordS_begin (S := (fun w' : World => w'.cell? ⟨gr, 3, none⟩ = some (.int .i64 v2))) (by kernel_rfl) HR9.out.c3 (fun hH => ?_)
        refine' ordS_take (i := 0) (oi := { dst := some 102, op := Op.move (Operand.tmp 14), type := 30, pos := _, after := #[], guard := none }) (v := _) rfl (by kernel_rfl) (by kernel_rfl) (by kernel_rfl) (by kernel_rfl) (fun _ _ _ h => h) (by assumption) (Or.inl ⟨by rfl, ?hy25⟩) (fun _ => rfl) ?rest25
        case hy25 => (intro w hSw; (try dsimp only at hSw); go_simp; try with_reducible rfl)
        try simp only [Act.put, List.setIfInBounds_toArray, List.set_cons_zero, List.set_cons_succ]
        refine' ordS_take (i := 1) (oi := { dst := some 103, op := Op.move (Operand.tmp 16), type := 30, pos := _, after := #[], guard := none }) (v := _) rfl (by kernel_rfl) (by kernel_rfl) (by kernel_rfl) (by kernel_rfl) (fun _ _ _ h => h) (by assumption) (Or.inl ⟨by rfl, ?hy26⟩) (fun _ => rfl) ?rest26
        case hy26 => (intro w hSw; (try dsimp only at hSw); go_simp; try with_reducible rfl)
        try simp only [Act.put, List.setIfInBounds_toArray, List.set_cons_zero, List.set_cons_succ]
        refine' ordS_take (i := 2) (oi := { dst := some 104, op := Op.binOp BinOp.neq 30 (Operand.tmp 102) (Operand.tmp 103) 30, type := 4, pos := _, after := #[{ on := 0, ground := Ground.data }, { on := 1, ground := Ground.data }], guard := none }) (v := _) rfl (by kernel_rfl) (by kernel_rfl) (by kernel_rfl) (by kernel_rfl) (fun _ _ _ h => h) (by assumption) (Or.inl ⟨by rfl, ?hy27⟩) (fun _ => rfl) ?rest27
        case hy27 => (intro w hSw; (try dsimp only at hSw); go_simp; try with_reducible rfl)
        try simp only [Act.put, List.setIfInBounds_toArray, List.set_cons_zero, List.set_cons_succ]
        refine' ordS_take (i := 3) (oi := { dst := some 105, op := Op.move (Operand.tmp 104), type := 4, pos := _, after := #[{ on := 2, ground := Ground.data }], guard := none }) (v := _) rfl (by kernel_rfl) (by kernel_rfl) (by kernel_rfl) (by kernel_rfl) (fun _ _ _ h => h) (by assumption) (Or.inl ⟨by rfl, ?hy28⟩) (fun _ => rfl) ?rest28
        case hy28 => (intro w hSw; (try dsimp only at hSw); go_simp; try with_reducible rfl)
        try simp only [Act.put, List.setIfInBounds_toArray, List.set_cons_zero, List.set_cons_succ]
        refine' ordS_take (i := 4) (oi := { dst := some 106, op := Op.move (Operand.tmp 13), type := 38, pos := _, after := #[{ on := 3, ground := Ground.guard }], guard := some (3, false) }) (v := _) rfl (by kernel_rfl) (by kernel_rfl) (by kernel_rfl) (by kernel_rfl) (fun _ _ _ h => h) (by assumption) (Or.inl ⟨by rfl, ?hy29⟩) (fun _ => rfl) ?rest29
        case hy29 => (intro w hSw; (try dsimp only at hSw); go_simp; try with_reducible rfl)
        try simp only [Act.put, List.setIfInBounds_toArray, List.set_cons_zero, List.set_cons_succ]
        refine' ordS_take (i := 5) (oi := { dst := some 107, op := Op.move (Operand.tmp 15), type := 38, pos := _, after := #[{ on := 3, ground := Ground.guard }], guard := some (3, false) }) (v := _) rfl (by kernel_rfl) (by kernel_rfl) (by kernel_rfl) (by kernel_rfl) (fun _ _ _ h => h) (by assumption) (Or.inl ⟨by rfl, ?hy30⟩) (fun _ => rfl) ?rest30
        case hy30 => (intro w hSw; (try dsimp only at hSw); go_simp; try with_reducible rfl)
        try simp only [Act.put, List.setIfInBounds_toArray, List.set_cons_zero, List.set_cons_succ]
        refine ordS_one (i := 6) (o := { dst := some 108, op := Op.call { callee := Callee.value (Operand.func 12), args := #[Operand.tmp 106, Operand.tmp 107], argTypes := #[38, 38] }, type := 4, pos := _, after := #[{ on := 4, ground := Ground.data }, { on := 5, ground := Ground.data }, { on := 3, ground := Ground.chain }, { on := 3, ground := Ground.guard }], guard := some (3, false) }) (by kernel_rfl) rfl (by rfl) (fun K hK => ?_)
        go_simp
        refine ⟨trivial, (callsIn_wide.2 (fcells_eq a5 a8 c5 c8 ns _ HK9.out HJ9.out HNL.out)).mono ?_⟩
        rintro e w10 ⟨rfl, hb⟩
        have HL10 := Lib.hid (HL9.out.below hb)
        have HF10 := Lib.hid (HF9.out.below hb)
        have HR10 := Lib.hid (HR9.out.below hb)
        have hc := HR10.out.c3
        refine hK _ _ hc ?_
        clear hK K hH hb hD
        try simp only [Act.put, List.setIfInBounds_toArray, List.set_cons_zero, List.set_cons_succ]
        have hH := hc
        have zg := blk_lt hc
        refine' ordS_take (i := 7) (oi := { dst := some 109, op := Op.unOp UnOp.not 4 (Operand.tmp 108), type := 4, pos := _, after := #[{ on := 6, ground := Ground.data }, { on := 3, ground := Ground.guard }], guard := some (3, false) }) (v := _) rfl (by kernel_rfl) (by kernel_rfl) (by kernel_rfl) (by kernel_rfl) (fun _ _ _ h => h) (by assumption) (Or.inl ⟨by rfl, ?hy31⟩) (fun _ => rfl) ?rest31
        case hy31 => (intro w hSw; (try dsimp only at hSw); go_simp; try with_reducible rfl)
        try simp only [Act.put, List.setIfInBounds_toArray, List.set_cons_zero, List.set_cons_succ]
        refine' ordS_take (i := 8) (oi := { dst := some 110, op := Op.pick (Operand.tmp 105) (Operand.const (Value.bool true)) (Operand.tmp 109), type := 4, pos := _, after := #[{ on := 3, ground := Ground.data }, { on := 7, ground := Ground.data }], guard := none }) (v := _) rfl (by kernel_rfl) (by kernel_rfl) (by kernel_rfl) (by kernel_rfl) (fun _ _ _ h => h) (by assumption) (Or.inl ⟨by rfl, ?hy32⟩) (fun _ => rfl) ?rest32
        case hy32 => (intro w hSw; (try dsimp only at hSw); go_simp; try with_reducible rfl)
        try simp only [Act.put, List.setIfInBounds_toArray, List.set_cons_zero, List.set_cons_succ]
        refine' ordS_take (i := 9) (oi := { dst := some 111, op := Op.move (Operand.tmp 110), type := 4, pos := _, after := #[{ on := 8, ground := Ground.data }, { on := 6, ground := Ground.chain }], guard := none }) (v := _) rfl (by kernel_rfl) (by kernel_rfl) (by kernel_rfl) (by kernel_rfl) (fun _ _ _ h => h) (by assumption) (Or.inl ⟨by rfl, ?hy33⟩) (fun _ => rfl) ?rest33
        case hy33 => (intro w hSw; (try dsimp only at hSw); go_simp; try with_reducible rfl)
        try simp only [Act.put, List.setIfInBounds_toArray, List.set_cons_zero, List.set_cons_succ]
        refine' ordS_take (i := 10) (oi := { dst := some 112, op := Op.move (Operand.tmp 7), type := 29, pos := _, after := #[{ on := 9, ground := Ground.guard }], guard := some (9, false) }) (v := _) rfl (by kernel_rfl) (by kernel_rfl) (by kernel_rfl) (by kernel_rfl) (fun _ _ _ h => h) (by assumption) (Or.inl ⟨by rfl, ?hy34⟩) (fun _ => rfl) ?rest34
        case hy34 => (intro w hSw; (try dsimp only at hSw); go_simp; try with_reducible rfl)
        try simp only [Act.put, List.setIfInBounds_toArray, List.set_cons_zero, List.set_cons_succ]
        refine' ordS_take (i := 12) (oi := { dst := some 114, op := Op.move (Operand.tmp 9), type := 33, pos := _, after := #[{ on := 9, ground := Ground.guard }], guard := some (9, false) }) (v := _) rfl (by kernel_rfl) (by kernel_rfl) (by kernel_rfl) (by kernel_rfl) (fun _ _ _ h => h) (by assumption) (Or.inl ⟨by rfl, ?hy35⟩) (fun _ => rfl) ?rest35
        case hy35 => (intro w hSw; (try dsimp only at hSw); go_simp; try with_reducible rfl)
        try simp only [Act.put, List.setIfInBounds_toArray, List.set_cons_zero, List.set_cons_succ]
        refine' ordS_take (i := 13) (oi := { dst := some 115, op := Op.nilCheck (Operand.tmp 114), type := 0, pos := _, after := #[{ on := 12, ground := Ground.data }, { on := 9, ground := Ground.guard }], guard := some (9, false) }) (v := _) rfl (by kernel_rfl) (by kernel_rfl) (by kernel_rfl) (by kernel_rfl) (fun _ _ _ h => h) (by assumption) (Or.inl ⟨by rfl, ?hy36⟩) (fun _ => rfl) ?rest36
        case hy36 => (intro w hSw; (try dsimp only at hSw); go_simp; try with_reducible rfl)
        try simp only [Act.put, List.setIfInBounds_toArray, List.set_cons_zero, List.set_cons_succ]
        refine' ordS_take (i := 14) (oi := { dst := some 116, op := Op.fieldAddr 52 (Operand.tmp 115) 2, type := 0, pos := _, after := #[{ on := 13, ground := Ground.data }, { on := 9, ground := Ground.guard }], guard := some (9, false) }) (v := _) rfl (by kernel_rfl) (by kernel_rfl) (by kernel_rfl) (by kernel_rfl) (fun _ _ _ h => h) (by assumption) (Or.inl ⟨by rfl, ?hy37⟩) (fun _ => rfl) ?rest37
        case hy37 => (intro w hSw; (try dsimp only at hSw); go_simp; try with_reducible rfl)
        try simp only [Act.put, List.setIfInBounds_toArray, List.set_cons_zero, List.set_cons_succ]
        refine' ordS_take (i := 15) (oi := { dst := some 117, op := Op.load 3 (Operand.tmp 116), type := 3, pos := _, after := #[{ on := 14, ground := Ground.data }, { on := 9, ground := Ground.guard }], guard := some (9, false) }) (v := _) rfl (by kernel_rfl) (by kernel_rfl) (by kernel_rfl) (by kernel_rfl) (fun _ _ _ h => h) (by assumption) (Or.inl ⟨by rfl, ?hy38⟩) (fun _ => rfl) ?rest38
        case hy38 => (intro w hSw; (try dsimp only at hSw); go_simp; try with_reducible rfl)
        try simp only [Act.put, List.setIfInBounds_toArray, List.set_cons_zero, List.set_cons_succ]
        refine ordS_one (i := 11) (o := { dst := some 113, op := Op.call { callee := Callee.value (Operand.func 13), args := #[Operand.tmp 112], argTypes := #[29] }, type := 3, pos := _, after := #[{ on := 10, ground := Ground.data }, { on := 9, ground := Ground.chain }, { on := 9, ground := Ground.guard }], guard := some (9, false) }) (by kernel_rfl) rfl (by rfl) (fun K hK => ?_)
        go_simp
        refine ⟨trivial, (callsIn_wide.2 (version_any _ _ _ _ _ _ _ _ _ HF10.out)).mono ?_⟩
        rintro e w11 ⟨rfl, rfl⟩
        refine hK _ _ hc ?_
        clear hK K
        try simp only [Act.put, List.setIfInBounds_toArray, List.set_cons_zero, List.set_cons_succ]
        refine' ordS_take (i := 16) (oi := { dst := some 118, op := Op.binOp BinOp.neq 3 (Operand.tmp 113) (Operand.tmp 117) 3, type := 4, pos := _, after := #[{ on := 11, ground := Ground.data }, { on := 15, ground := Ground.data }, { on := 9, ground := Ground.guard }], guard := some (9, false) }) (v := _) rfl (by kernel_rfl) (by kernel_rfl) (by kernel_rfl) (by kernel_rfl) (fun _ _ _ h => h) (by assumption) (Or.inl ⟨by rfl, ?hy39⟩) (fun _ => rfl) ?rest39
        case hy39 => (intro w hSw; (try dsimp only at hSw); go_simp; try with_reducible rfl)
        try simp only [Act.put, List.setIfInBounds_toArray, List.set_cons_zero, List.set_cons_succ]
        refine' ordS_take (i := 17) (oi := { dst := some 119, op := Op.pick (Operand.tmp 111) (Operand.const (Value.bool true)) (Operand.tmp 118), type := 4, pos := _, after := #[{ on := 9, ground := Ground.data }, { on := 16, ground := Ground.data }], guard := none }) (v := _) rfl (by kernel_rfl) (by kernel_rfl) (by kernel_rfl) (by kernel_rfl) (fun _ _ _ h => h) (by assumption) (Or.inl ⟨by rfl, ?hy40⟩) (fun _ => rfl) ?rest40
        case hy40 => (intro w hSw; (try dsimp only at hSw); go_simp; try with_reducible rfl)
        try simp only [Act.put, List.setIfInBounds_toArray, List.set_cons_zero, List.set_cons_succ]
        refine ordS_done (by kernel_rfl) ?_
        clear hH hc hE0 hv0 zg HL8 HF8 HR8 HK8 HL9 HF9 HR9 HK9 HJ8 HJ9
        obtain ⟨ko, hko⟩ : ∃ o, knA X Y x y ms2 = o := ⟨_, rfl⟩
        have HKO := Lib.hid hko
        clear hko
        obtain ⟨p0, p1⟩ := And.intro HL10.out.p0 HL10.out.p1
        have zp := blk_lt p0
        go_wp2_with fail
        refine (known_any _ g h N X Y x y ms2 v2 _ HF10.out (by rw [HL2.out]; exact HNN.out)).mono ?_
        rintro e w12 ⟨rfl, hb⟩
        rw [HKO.out]
        have HL12 := Lib.hid (HL10.out.below hb)
        have HF12 := Lib.hid (HF10.out.below hb)
        have HR12 := Lib.hid (HR10.out.below hb)
        clear hb HL10 HF10 HR10 p0 p1 zp
        obtain ⟨p0, p1, f0, f1⟩ := And.intro HL12.out.p0 (And.intro HL12.out.p1 (And.intro HL12.out.f0 HL12.out.f1))
        have zp := blk_lt p0
        have zf := blk_lt f0
        go_wp2_with fail
        refine (rin_any X Y x y _).mono ?_
        rintro e w13 ⟨rfl, hb⟩
        have HL13 := Lib.hid (HL12.out.below hb)
        have HF13 := Lib.hid (HF12.out.below hb)
        have HR13 := Lib.hid (HR12.out.below hb)
        clear hb HL12 HF12 HR12 p0 p1 f0 f1 zp zf
        have HI13 := Lib.hid (show MergesI w B2 g h N gr hr0 capr X Y x y ls (k + 1) w13 from ⟨by rw [HS2.out]; exact HF13.out, by rw [HS2.out]; exact HR13.out, HL13.out.hA, HL13.out.f0, HL13.out.f1, HL13.out.p0, HL13.out.p1⟩)
        cases hin : inB X Y x y with
        | false =>
          have hk0 : ko = none := by rw [← HKO.out]; exact known_off hin
          subst hk0
          clear hin
          go_wp2
          go_roundw
          case rel => exact ⟨k + 1, by omega, by go_num, HI13⟩
          case measure => simp [intOf]; omega
        | true =>
          obtain ⟨n1, n2⟩ := known_cost hin (ms := ms2) (by rw [HL2.out]; exact HNN.out)
          obtain ⟨i1, i2⟩ := idx_lt hin
          have hir := inB_iff.1 hin
          have hjj : (numC X (x, y) : Int) = y * X + x := by unfold numC; dsimp only; omega
          obtain ⟨j, hj⟩ : ∃ j, numC X (x, y) = j := ⟨_, rfl⟩
          rw [hj] at n1 n2 hjj
          have hat := HR13.out.at (j := j) (by simpa [costR] using n1)
          obtain ⟨z0, hz0⟩ : ∃ z0, (costR ms2).getD j 0 = z0 := ⟨_, rfl⟩
          rw [hz0] at hat n2
          rw [HKO.out] at n2
          have hjN : j < N := by rw [← HL2.out]; exact n1
          have hj2 : (j : Int) < (N : Int) := by omega
          have hj0 : (0 : Int) ≤ (j : Int) := by omega
          have hx0 : 0 ≤ x ∧ x < 256 := by omega
          have hyX : 0 ≤ y * X ∧ y * X ≤ 65536 := ⟨Int.mul_nonneg (by omega) (by omega), by omega⟩
          have hw1 : IntKind.i64.wrap (y * X) = y * X := IntWalk.i64_in _ (by omega)
          have hw2 : IntKind.i64.wrap (y * X + x) = (j : Int) := by rw [IntWalk.i64_in _ (by omega), hjj]
          have hKI := HK2.out
          have HZI := Lib.hid (fun z (hz : ko = some z) => known_in hKI (by rw [HKO.out]; exact hz))
          clear hin n1 i1 i2 hir hjj hj hz0 hjN hx0 hyX hKI
          have HN2 := Lib.hid n2
          clear n2
          go_upto_region 24 with fail
          have hD := bl_dr (bl0 w13)
          have HL14 := Lib.hid (HL13.out.below hD)
          have hc := And.intro (HR13.out.below hD).c2 (And.intro HL14.out.p1 (And.intro HL14.out.p0 (And.intro HL14.out.f0 (cell_later hD hat))))
          have HI14 := Lib.hid (show MergesI w B2 g h N gr hr0 capr X Y x y ls (k + 1) w13.drew from ⟨by rw [HS2.out]; exact HF13.out.below hD, by rw [HS2.out]; exact HR13.out.below hD, HL14.out.hA, HL14.out.f0, HL14.out.f1, HL14.out.p0, HL14.out.p1⟩)
          clear hD
          refine (wpIn_wide (n := 11)).1 ?_
          refine ordS_begin (S := (fun w' : World => w'.cell? ⟨gr, 2, none⟩ = some (.slice (some ⟨hr0, 0, none⟩) N capr) ∧ w'.cell? ⟨w.heap.size + 1, 1, none⟩ = some (.int .i64 y) ∧ w'.cell? ⟨w.heap.size + 1, 0, none⟩ = some (.int .i64 x) ∧ w'.cell? ⟨w.heap.size, 0, none⟩ = some (.int .i64 X) ∧ w'.cell? ⟨hr0, j, none⟩ = some (.int .i64 z0))) (by kernel_rfl) hc (fun hH => ?_)
          refine' ordS_take (i := 0) (oi := { dst := some 129, op := Op.move (Operand.tmp 9), type := 33, pos := _, after := #[], guard := none }) (v := _) rfl (by kernel_rfl) (by kernel_rfl) (by kernel_rfl) (by kernel_rfl) (fun _ _ _ h => h) (by assumption) (Or.inl ⟨by rfl, ?hy41⟩) (fun _ => rfl) ?rest41
          case hy41 => (intro w hSw; (try dsimp only at hSw); go_simp; try with_reducible rfl)
          try simp only [Act.put, List.setIfInBounds_toArray, List.set_cons_zero, List.set_cons_succ]
          refine' ordS_take (i := 1) (oi := { dst := some 130, op := Op.nilCheck (Operand.tmp 129), type := 0, pos := _, after := #[{ on := 0, ground := Ground.data }], guard := none }) (v := _) rfl (by kernel_rfl) (by kernel_rfl) (by kernel_rfl) (by kernel_rfl) (fun _ _ _ h => h) (by assumption) (Or.inl ⟨by rfl, ?hy42⟩) (fun _ => rfl) ?rest42
          case hy42 => (intro w hSw; (try dsimp only at hSw); go_simp; try with_reducible rfl)
          try simp only [Act.put, List.setIfInBounds_toArray, List.set_cons_zero, List.set_cons_succ]
          refine' ordS_take (i := 2) (oi := { dst := some 131, op := Op.fieldAddr 52 (Operand.tmp 130) 1, type := 0, pos := _, after := #[{ on := 1, ground := Ground.data }], guard := none }) (v := _) rfl (by kernel_rfl) (by kernel_rfl) (by kernel_rfl) (by kernel_rfl) (fun _ _ _ h => h) (by assumption) (Or.inl ⟨by rfl, ?hy43⟩) (fun _ => rfl) ?rest43
          case hy43 => (intro w hSw; (try dsimp only at hSw); go_simp; try with_reducible rfl)
          try simp only [Act.put, List.setIfInBounds_toArray, List.set_cons_zero, List.set_cons_succ]
          refine' ordS_take (i := 3) (oi := { dst := some 132, op := Op.load 50 (Operand.tmp 131), type := 50, pos := _, after := #[{ on := 2, ground := Ground.data }], guard := none }) (v := _) rfl (by kernel_rfl) (by kernel_rfl) (by kernel_rfl) (by kernel_rfl) (fun _ _ _ h => h) (by assumption) (Or.inl ⟨by rfl, ?hy44⟩) (fun _ => rfl) ?rest44
          case hy44 => (intro w hSw; (try dsimp only at hSw); go_simp; try with_reducible rfl)
          try simp only [Act.put, List.setIfInBounds_toArray, List.set_cons_zero, List.set_cons_succ]
          refine' ordS_take (i := 4) (oi := { dst := some 133, op := Op.fieldAddr 26 (Operand.tmp 5) 1, type := 0, pos := _, after := #[], guard := none }) (v := _) rfl (by kernel_rfl) (by kernel_rfl) (by kernel_rfl) (by kernel_rfl) (fun _ _ _ h => h) (by assumption) (Or.inl ⟨by rfl, ?hy45⟩) (fun _ => rfl) ?rest45
          case hy45 => (intro w hSw; (try dsimp only at hSw); go_simp; try with_reducible rfl)
          try simp only [Act.put, List.setIfInBounds_toArray, List.set_cons_zero, List.set_cons_succ]
          refine' ordS_take (i := 5) (oi := { dst := some 134, op := Op.load 3 (Operand.tmp 133), type := 3, pos := _, after := #[{ on := 4, ground := Ground.data }], guard := none }) (v := _) rfl (by kernel_rfl) (by kernel_rfl) (by kernel_rfl) (by kernel_rfl) (fun _ _ _ h => h) (by assumption) (Or.inl ⟨by rfl, ?hy46⟩) (fun _ => rfl) ?rest46
          case hy46 => (intro w hSw; (try dsimp only at hSw); go_simp; try with_reducible rfl)
          try simp only [Act.put, List.setIfInBounds_toArray, List.set_cons_zero, List.set_cons_succ]
          refine' ordS_take (i := 6) (oi := { dst := some 135, op := Op.fieldAddr 23 (Operand.tmp 3) 0, type := 0, pos := _, after := #[], guard := none }) (v := _) rfl (by kernel_rfl) (by kernel_rfl) (by kernel_rfl) (by kernel_rfl) (fun _ _ _ h => h) (by assumption) (Or.inl ⟨by rfl, ?hy47⟩) (fun _ => rfl) ?rest47
          case hy47 => (intro w hSw; (try dsimp only at hSw); go_simp; try with_reducible rfl)
          try simp only [Act.put, List.setIfInBounds_toArray, List.set_cons_zero, List.set_cons_succ]
          refine' ordS_take (i := 7) (oi := { dst := some 136, op := Op.load 3 (Operand.tmp 135), type := 3, pos := _, after := #[{ on := 6, ground := Ground.data }], guard := none }) (v := _) rfl (by kernel_rfl) (by kernel_rfl) (by kernel_rfl) (by kernel_rfl) (fun _ _ _ h => h) (by assumption) (Or.inl ⟨by rfl, ?hy48⟩) (fun _ => rfl) ?rest48
          case hy48 => (intro w hSw; (try dsimp only at hSw); go_simp; try with_reducible rfl)
          try simp only [Act.put, List.setIfInBounds_toArray, List.set_cons_zero, List.set_cons_succ]
          refine' ordS_take (i := 8) (oi := { dst := some 137, op := Op.binOp BinOp.mul 3 (Operand.tmp 134) (Operand.tmp 136) 3, type := 3, pos := _, after := #[{ on := 5, ground := Ground.data }, { on := 7, ground := Ground.data }], guard := none }) (v := _) rfl (by kernel_rfl) (by kernel_rfl) (by kernel_rfl) (by kernel_rfl) (fun _ _ _ h => h) (by assumption) (Or.inl ⟨by rfl, ?hy49⟩) (fun _ => rfl) ?rest49
          case hy49 => (intro w hSw; (try dsimp only at hSw); go_simp; try with_reducible rfl)
          try simp only [Act.put, List.setIfInBounds_toArray, List.set_cons_zero, List.set_cons_succ]
          refine' ordS_take (i := 9) (oi := { dst := some 138, op := Op.fieldAddr 26 (Operand.tmp 5) 0, type := 0, pos := _, after := #[], guard := none }) (v := _) rfl (by kernel_rfl) (by kernel_rfl) (by kernel_rfl) (by kernel_rfl) (fun _ _ _ h => h) (by assumption) (Or.inl ⟨by rfl, ?hy50⟩) (fun _ => rfl) ?rest50
          case hy50 => (intro w hSw; (try dsimp only at hSw); go_simp; try with_reducible rfl)
          try simp only [Act.put, List.setIfInBounds_toArray, List.set_cons_zero, List.set_cons_succ]
          refine' ordS_take (i := 10) (oi := { dst := some 139, op := Op.load 3 (Operand.tmp 138), type := 3, pos := _, after := #[{ on := 9, ground := Ground.data }], guard := none }) (v := _) rfl (by kernel_rfl) (by kernel_rfl) (by kernel_rfl) (by kernel_rfl) (fun _ _ _ h => h) (by assumption) (Or.inl ⟨by rfl, ?hy51⟩) (fun _ => rfl) ?rest51
          case hy51 => (intro w hSw; (try dsimp only at hSw); go_simp; try with_reducible rfl)
          try simp only [Act.put, List.setIfInBounds_toArray, List.set_cons_zero, List.set_cons_succ]
          refine' ordS_take (i := 11) (oi := { dst := some 140, op := Op.binOp BinOp.add 3 (Operand.tmp 137) (Operand.tmp 139) 3, type := 3, pos := _, after := #[{ on := 8, ground := Ground.data }, { on := 10, ground := Ground.data }], guard := none }) (v := _) rfl (by kernel_rfl) (by kernel_rfl) (by kernel_rfl) (by kernel_rfl) (fun _ _ _ h => h) (by assumption) (Or.inl ⟨by rfl, ?hy52⟩) (fun _ => rfl) ?rest52
          case hy52 => (intro w hSw; (try dsimp only at hSw); go_simp; try with_reducible rfl)
          try simp only [Act.put, List.setIfInBounds_toArray, List.set_cons_zero, List.set_cons_succ]
          refine' ordS_take (i := 12) (oi := { dst := some 141, op := Op.indexAddr 50 (Operand.tmp 132) (Operand.tmp 140), type := 0, pos := _, after := #[{ on := 3, ground := Ground.data }, { on := 11, ground := Ground.data }], guard := none }) (v := _) rfl (by kernel_rfl) (by kernel_rfl) (by kernel_rfl) (by kernel_rfl) (fun _ _ _ h => h) (by assumption) (Or.inl ⟨by rfl, ?hy53⟩) (fun _ => rfl) ?rest53
          case hy53 => (intro w hSw; (try dsimp only at hSw); go_simp; try with_reducible rfl)
          try simp only [Act.put, List.setIfInBounds_toArray, List.set_cons_zero, List.set_cons_succ]
          refine' ordS_take (i := 13) (oi := { dst := some 142, op := Op.load 3 (Operand.tmp 141), type := 3, pos := _, after := #[{ on := 12, ground := Ground.data }], guard := none }) (v := _) rfl (by kernel_rfl) (by kernel_rfl) (by kernel_rfl) (by kernel_rfl) (fun _ _ _ h => h) (by assumption) (Or.inl ⟨by rfl, ?hy54⟩) (fun _ => rfl) ?rest54
          case hy54 => (intro w hSw; (try dsimp only at hSw); go_simp; try with_reducible rfl)
          try simp only [Act.put, List.setIfInBounds_toArray, List.set_cons_zero, List.set_cons_succ]
          refine' ordS_take (i := 14) (oi := { dst := some 19, op := Op.assign (Operand.tmp 142), type := 3, pos := _, after := #[{ on := 13, ground := Ground.data }, { on := 0, ground := Ground.phase }, { on := 1, ground := Ground.phase }, { on := 2, ground := Ground.phase }, { on := 3, ground := Ground.phase }, { on := 4, ground := Ground.phase }, { on := 5, ground := Ground.phase }, { on := 6, ground := Ground.phase }, { on := 7, ground := Ground.phase }, { on := 8, ground := Ground.phase }, { on := 9, ground := Ground.phase }, { on := 10, ground := Ground.phase }, { on := 11, ground := Ground.phase }, { on := 12, ground := Ground.phase }, { on := 13, ground := Ground.phase }], guard := none }) (v := _) rfl (by kernel_rfl) (by kernel_rfl) (by kernel_rfl) (by kernel_rfl) (fun _ _ _ h => h) (by assumption) (Or.inl ⟨by rfl, ?hy55⟩) (fun _ => rfl) ?rest55
          case hy55 => (intro w hSw; (try dsimp only at hSw); go_simp; try with_reducible rfl)
          try simp only [Act.put, List.setIfInBounds_toArray, List.set_cons_zero, List.set_cons_succ]
          refine ordS_done (by kernel_rfl) ?_
          clear hH hc hat hw1 hw2 HI13
          cases ko with
          | none =>
            have e1 : z0 = -1 := HN2.out
            subst e1
            go_wp2
            go_roundw
            case rel => exact ⟨k + 1, by omega, by go_num, HI14⟩
            case measure => simp [intOf]; omega
          | some z =>
            have e1 : z0 = z := HN2.out
            subst e1
            obtain ⟨z1, z2⟩ := HZI.out z0 rfl
            have hwz : IntKind.i64.wrap z0 = z0 := IntWalk.i64_in _ (by omega)
            have hzz : (z0 != z0) = false := by simp
            have hz1 : decide (0 ≤ z0) = true := decide_eq_true z1
            go_wp2
            go_roundw
            case rel => exact ⟨k + 1, by omega, by go_num, HI14⟩
            case measure => simp [intOf]; omega
    · obtain rfl : k = ls.length := by omega
      have hge : ¬ (ls.length : Int) < (ls.length : Int) := by omega
      have hlen := looksL_size X Y (ls.take ls.length)
      rw [HN.out] at hlen
      have HK0 := allK_looks (X := X) (Y := Y) (ls := ls.take ls.length) (fun y hy => HU.out y (List.mem_of_mem_take hy))
      obtain ⟨⟨ms, v⟩, hs⟩ : ∃ s, looksL X Y (ls.take ls.length) = s := ⟨_, rfl⟩
      rw [hs] at F R hlen HK0
      dsimp only at F R hlen HK0
      have HK := Lib.hid HK0
      have HL := Lib.hid hlen
      have HLN := Lib.hid (show (ms.length : Int) = X * Y by rw [hlen]; exact HNN.out)
      have HM5 := Lib.hid (show ms.length ≤ 65536 by rw [hlen]; exact hN6)
      have HCL := Lib.hid (show (costR ms).length = ms.length by simp [costR])
      have HF := Lib.hid F
      have HR := Lib.hid R
      have HA := Lib.hid hAr
      have HF0 := Lib.hid f0
      clear hs F R hlen HK0 hAr f0 f1 p0 p1
      go_wp2_with fail
      refine (expl_any w.heap.size g h N X Y ms v _ HF.out H2.out HLN.out).mono ?_
      rintro e w4 ⟨b, hb', rfl, hmk, _, _, _, hb⟩
      have HF4 := Lib.hid (HF.out.below hb)
      have HR4 := Lib.hid (HR.out.below hb)
      have HA4 := Lib.hid (bl_tr HA.out hb)
      have HG4 := Lib.hid (cell_later hb HF0.out)
      have HM4 := Lib.hid hmk
      clear hmk hb HF HR HA HF0
      obtain ⟨sn, hsn⟩ : ∃ sn, seenR (costR ms) = sn := ⟨_, rfl⟩
      have HSN := Lib.hid hsn
      have hnn : ((sn : Int) != (sn : Int)) = false := by simp
      clear hsn
      go_wp2_with fail
      refine (count_eq b hb' X Y _ sn _ HM4.out (Good.explK (good_zero0 H2.out) HLN.out ms.length (Nat.le_refl _)) (by rw [seen_expl H2.out HLN.out HK.out]; exact HSN.out)).mono ?_
      rintro e w5 ⟨rfl, rfl⟩
      go_wp2_with fail
      refine (rfseen_any B2 gr X Y _ (costR ms) v _ HR4.out (by rw [HCL.out]; exact HM5.out)).mono ?_
      rintro e w6 ⟨rfl, hb⟩
      rw [HSN.out]
      have HF6 := Lib.hid (HF4.out.below hb)
      have HR6 := Lib.hid (HR4.out.below hb)
      have HA6 := Lib.hid (bl_tr HA4.out hb)
      have HG6 := Lib.hid (cell_later hb HG4.out)
      have HM6 := Lib.hid (HM4.out.below hb)
      clear hb HF4 HR4 HA4 HG4 HM4
      go_wp2_with fail
      refine (view_any _ _ _ _ _ _ _ _ _ HF6.out (Nat.le_trans HM5.out (by decide))).mono ?_
      rintro e w7 ⟨h13, rfl, hq13, _, hb⟩
      have HR7 := Lib.hid (HR6.out.below hb)
      have HA7 := Lib.hid (bl_tr HA6.out hb)
      have HG7 := Lib.hid (cell_later hb HG6.out)
      have HM7 := Lib.hid (HM6.out.below hb)
      have HV7 := Lib.hid (rowH_heap hq13)
      clear hb hq13 HF6 HR6 HA6 HG6 HM6
      have hrv := rfview_any B2 gr X Y _ (costR ms) v _ HR7.out (by rw [HCL.out]; exact HM5.out) (cost_max HK.out)
      rw [HCL.out, view_cost HK.out] at hrv
      have HRV := Lib.hid hrv
      clear hrv
      go_wp2_with fail
      refine HRV.out.mono ?_
      rintro e w8 ⟨a8, c8, rfl, hr8, hb⟩
      have HR8 := Lib.hid (HR7.out.below hb)
      have HA8 := Lib.hid (bl_tr HA7.out hb)
      have HG8 := Lib.hid (cell_later hb HG7.out)
      have HM8 := Lib.hid (HM7.out.below hb)
      have hcall := rsame_any X Y X Y (some ⟨h13, 0, none⟩) a8 ms.length c8 (viewL ms) (viewL ms) w8 (HV7.out.below hb) hr8 (by rw [viewL_len]; exact Nat.le_trans HM5.out (by decide))
      rw [viewL_len, show sameF X Y (viewL ms) X Y (viewL ms) = true from by simp [sameF]] at hcall
      have HCC := Lib.hid hcall
      clear hcall hb hr8 HRV HV7 HR7 HA7 HG7 HM7
      go_wp2_with fail
      refine HCC.out.mono ?_
      rintro e w9 ⟨rfl, hb⟩
      have HI := Lib.hid (show RFogAt w9 B2 gr X Y (.slice (some ⟨hr0, 0, none⟩) N capr) (costR ms) v ∧ MaskAt w9 b hb' X Y (explK ms (List.replicate ((X * Y + 7) / 8).toNat 0) ms.length) ∧ Below w.heap.size w w9 ∧ w9.cell? ⟨w.heap.size, 0, none⟩ = some (.int .i64 X) from ⟨HR8.out.below hb, HM8.out.below hb, bl_tr HA8.out hb, cell_later hb HG8.out⟩)
      clear hb HR8 HM8 HA8 HG8 HCC
      go_wp2_with fail
      go_loopw [21] (fun i wq => ∃ j : Nat, j ≤ N ∧ i = .int .i64 j ∧ Hid (RFogAt wq B2 gr X Y (.slice (some ⟨hr0, 0, none⟩) N capr) (costR ms) v ∧ MaskAt wq b hb' X Y (explK ms (List.replicate ((X * Y + 7) / 8).toNat 0) ms.length) ∧ Below w.heap.size w wq ∧ wq.cell? ⟨w.heap.size, 0, none⟩ = some (.int .i64 X))) (fun i _ => N - (intOf i).toNat)
      case atStart => exact ⟨0, Nat.zero_le _, rfl, HI⟩
      case round =>
        obtain ⟨j, hj, rfl, HJ⟩ := hrel
        clear HI
        have hj0 : (0 : Int) ≤ (j : Int) := by omega
        have c2 := HJ.out.1.c2
        have zg := blk_lt c2
        by_cases hjt : j < N
        · have hjt2 : (j : Int) < (N : Int) := by omega
          obtain ⟨m1, m2, m3, m4⟩ := mayB_iff.1 H2.out
          have hX0 : ¬ X = 0 := by omega
          have hrem : (j : Int).tmod X = (j : Int) % X := Int.tmod_eq_emod_of_nonneg hj0
          have hquo : (j : Int).tdiv X = (j : Int) / X := Int.tdiv_eq_ediv_of_nonneg hj0
          have hwr : IntKind.i64.wrap ((j : Int) / X) = (j : Int) / X := IntWalk.i64_in _ (by have := Int.ediv_nonneg hj0 (show 0 ≤ X by omega); have := Int.ediv_le_self X hj0; omega)
          have hjl : j < ms.length := by rw [HL.out]; exact hjt
          have hat := HJ.out.1.at (j := j) (by rw [HCL.out]; exact hjl)
          have hhas := fun W hm => has_num b hb' X Y ms j W H2.out HLN.out HK.out hjl hm
          obtain ⟨z0, hz0⟩ : ∃ z0, (costR ms).getD j 0 = z0 := ⟨_, rfl⟩
          rw [hz0] at hat hhas
          obtain ⟨t, ht⟩ : ∃ t, decide (0 ≤ z0) = t := ⟨_, rfl⟩
          rw [ht] at hhas
          have htt : (t != t) = false := by cases t <;> rfl
          have HHAS := Lib.hid hhas
          have f0 := HJ.out.2.2.2
          have zf := blk_lt f0
          have hD := bl_dr (bl0 wr)
          have hc := And.intro (cell_later hD c2) (And.intro (cell_later hD f0) (cell_later hD hat))
          have HJD := Lib.hid (show RFogAt wr.drew B2 gr X Y (.slice (some ⟨hr0, 0, none⟩) N capr) (costR ms) v ∧ MaskAt wr.drew b hb' X Y (explK ms (List.replicate ((X * Y + 7) / 8).toNat 0) ms.length) ∧ Below w.heap.size w wr.drew ∧ wr.drew.cell? ⟨w.heap.size, 0, none⟩ = some (.int .i64 X) from ⟨HJ.out.1.below hD, HJ.out.2.1.below hD, bl_tr HJ.out.2.2.1 hD, cell_later hD f0⟩)
          have HC := Lib.hid hc
          clear hjl hz0 hhas m1 m2 m3 m4 HJ hat f0 zf hc hD
          go_upto_region 33 with fail
          clear c2 zg
          refine (wpIn_wide (n := 11)).1 ?_
          refine ordS_begin (S := (fun w' : World => w'.cell? ⟨gr, 2, none⟩ = some (.slice (some ⟨hr0, 0, none⟩) N capr) ∧ w'.cell? ⟨w.heap.size, 0, none⟩ = some (.int .i64 X) ∧ w'.cell? ⟨hr0, j, none⟩ = some (.int .i64 z0))) (by kernel_rfl) HC.out (fun hH => ?_)
          refine' ordS_take (i := 0) (oi := { dst := some 192, op := Op.move (Operand.tmp 20), type := 41, pos := _, after := #[], guard := none }) (v := _) rfl (by kernel_rfl) (by kernel_rfl) (by kernel_rfl) (by kernel_rfl) (fun _ _ _ h => h) (by assumption) (Or.inl ⟨by rfl, ?hy56⟩) (fun _ => rfl) ?rest56
          case hy56 => (intro w hSw; (try dsimp only at hSw); go_simp; try with_reducible rfl)
          try simp only [Act.put, List.setIfInBounds_toArray, List.set_cons_zero, List.set_cons_succ]
          refine' ordS_take (i := 1) (oi := { dst := some 193, op := Op.move (Operand.tmp 21), type := 3, pos := _, after := #[], guard := none }) (v := _) rfl (by kernel_rfl) (by kernel_rfl) (by kernel_rfl) (by kernel_rfl) (fun _ _ _ h => h) (by assumption) (Or.inl ⟨by rfl, ?hy57⟩) (fun _ => rfl) ?rest57
          case hy57 => (intro w hSw; (try dsimp only at hSw); go_simp; try with_reducible rfl)
          try simp only [Act.put, List.setIfInBounds_toArray, List.set_cons_zero, List.set_cons_succ]
          refine' ordS_take (i := 2) (oi := { dst := some 194, op := Op.fieldAddr 23 (Operand.tmp 3) 0, type := 0, pos := _, after := #[], guard := none }) (v := _) rfl (by kernel_rfl) (by kernel_rfl) (by kernel_rfl) (by kernel_rfl) (fun _ _ _ h => h) (by assumption) (Or.inl ⟨by rfl, ?hy58⟩) (fun _ => rfl) ?rest58
          case hy58 => (intro w hSw; (try dsimp only at hSw); go_simp; try with_reducible rfl)
          try simp only [Act.put, List.setIfInBounds_toArray, List.set_cons_zero, List.set_cons_succ]
          refine' ordS_take (i := 3) (oi := { dst := some 195, op := Op.load 3 (Operand.tmp 194), type := 3, pos := _, after := #[{ on := 2, ground := Ground.data }], guard := none }) (v := _) rfl (by kernel_rfl) (by kernel_rfl) (by kernel_rfl) (by kernel_rfl) (fun _ _ _ h => h) (by assumption) (Or.inl ⟨by rfl, ?hy59⟩) (fun _ => rfl) ?rest59
          case hy59 => (intro w hSw; (try dsimp only at hSw); go_simp; try with_reducible rfl)
          try simp only [Act.put, List.setIfInBounds_toArray, List.set_cons_zero, List.set_cons_succ]
          refine' ordS_take (i := 4) (oi := { dst := some 196, op := Op.binOp BinOp.rem 3 (Operand.tmp 193) (Operand.tmp 195) 3, type := 3, pos := _, after := #[{ on := 1, ground := Ground.data }, { on := 3, ground := Ground.data }], guard := none }) (v := _) rfl (by kernel_rfl) (by kernel_rfl) (by kernel_rfl) (by kernel_rfl) (fun _ _ _ h => h) (by assumption) (Or.inl ⟨by rfl, ?hy60⟩) (fun _ => rfl) ?rest60
          case hy60 => (intro w hSw; (try dsimp only at hSw); go_simp; try with_reducible rfl)
          try simp only [Act.put, List.setIfInBounds_toArray, List.set_cons_zero, List.set_cons_succ]
          refine' ordS_take (i := 5) (oi := { dst := some 197, op := Op.move (Operand.tmp 21), type := 3, pos := _, after := #[], guard := none }) (v := _) rfl (by kernel_rfl) (by kernel_rfl) (by kernel_rfl) (by kernel_rfl) (fun _ _ _ h => h) (by assumption) (Or.inl ⟨by rfl, ?hy61⟩) (fun _ => rfl) ?rest61
          case hy61 => (intro w hSw; (try dsimp only at hSw); go_simp; try with_reducible rfl)
          try simp only [Act.put, List.setIfInBounds_toArray, List.set_cons_zero, List.set_cons_succ]
          refine' ordS_take (i := 6) (oi := { dst := some 198, op := Op.fieldAddr 23 (Operand.tmp 3) 0, type := 0, pos := _, after := #[], guard := none }) (v := _) rfl (by kernel_rfl) (by kernel_rfl) (by kernel_rfl) (by kernel_rfl) (fun _ _ _ h => h) (by assumption) (Or.inl ⟨by rfl, ?hy62⟩) (fun _ => rfl) ?rest62
          case hy62 => (intro w hSw; (try dsimp only at hSw); go_simp; try with_reducible rfl)
          try simp only [Act.put, List.setIfInBounds_toArray, List.set_cons_zero, List.set_cons_succ]
          refine' ordS_take (i := 7) (oi := { dst := some 199, op := Op.load 3 (Operand.tmp 198), type := 3, pos := _, after := #[{ on := 6, ground := Ground.data }], guard := none }) (v := _) rfl (by kernel_rfl) (by kernel_rfl) (by kernel_rfl) (by kernel_rfl) (fun _ _ _ h => h) (by assumption) (Or.inl ⟨by rfl, ?hy63⟩) (fun _ => rfl) ?rest63
          case hy63 => (intro w hSw; (try dsimp only at hSw); go_simp; try with_reducible rfl)
          try simp only [Act.put, List.setIfInBounds_toArray, List.set_cons_zero, List.set_cons_succ]
          refine' ordS_take (i := 8) (oi := { dst := some 200, op := Op.binOp BinOp.quo 3 (Operand.tmp 197) (Operand.tmp 199) 3, type := 3, pos := _, after := #[{ on := 5, ground := Ground.data }, { on := 7, ground := Ground.data }], guard := none }) (v := _) rfl (by kernel_rfl) (by kernel_rfl) (by kernel_rfl) (by kernel_rfl) (fun _ _ _ h => h) (by assumption) (Or.inl ⟨by rfl, ?hy64⟩) (fun _ => rfl) ?rest64
          case hy64 => (intro w hSw; (try dsimp only at hSw); go_simp; try with_reducible rfl)
          try simp only [Act.put, List.setIfInBounds_toArray, List.set_cons_zero, List.set_cons_succ]
          refine' ordS_take (i := 9) (oi := { dst := some 201, op := Op.build 26 #[(0, Operand.tmp 196), (1, Operand.tmp 200)], type := 26, pos := _, after := #[{ on := 4, ground := Ground.data }, { on := 8, ground := Ground.data }], guard := none }) (v := _) rfl (by kernel_rfl) (by kernel_rfl) (by kernel_rfl) (by kernel_rfl) (fun _ _ _ h => h) (by assumption) (Or.inl ⟨by rfl, ?hy65⟩) (fun _ => rfl) ?rest65
          case hy65 => (intro w hSw; (try dsimp only at hSw); go_simp; try with_reducible rfl)
          try simp only [Act.put, List.setIfInBounds_toArray, List.set_cons_zero, List.set_cons_succ]
          refine' ordS_take (i := 11) (oi := { dst := some 203, op := Op.move (Operand.tmp 9), type := 33, pos := _, after := #[], guard := none }) (v := _) rfl (by kernel_rfl) (by kernel_rfl) (by kernel_rfl) (by kernel_rfl) (fun _ _ _ h => h) (by assumption) (Or.inl ⟨by rfl, ?hy66⟩) (fun _ => rfl) ?rest66
          case hy66 => (intro w hSw; (try dsimp only at hSw); go_simp; try with_reducible rfl)
          try simp only [Act.put, List.setIfInBounds_toArray, List.set_cons_zero, List.set_cons_succ]
          refine' ordS_take (i := 12) (oi := { dst := some 204, op := Op.nilCheck (Operand.tmp 203), type := 0, pos := _, after := #[{ on := 11, ground := Ground.data }], guard := none }) (v := _) rfl (by kernel_rfl) (by kernel_rfl) (by kernel_rfl) (by kernel_rfl) (fun _ _ _ h => h) (by assumption) (Or.inl ⟨by rfl, ?hy67⟩) (fun _ => rfl) ?rest67
          case hy67 => (intro w hSw; (try dsimp only at hSw); go_simp; try with_reducible rfl)
          try simp only [Act.put, List.setIfInBounds_toArray, List.set_cons_zero, List.set_cons_succ]
          refine' ordS_take (i := 13) (oi := { dst := some 205, op := Op.fieldAddr 52 (Operand.tmp 204) 1, type := 0, pos := _, after := #[{ on := 12, ground := Ground.data }], guard := none }) (v := _) rfl (by kernel_rfl) (by kernel_rfl) (by kernel_rfl) (by kernel_rfl) (fun _ _ _ h => h) (by assumption) (Or.inl ⟨by rfl, ?hy68⟩) (fun _ => rfl) ?rest68
          case hy68 => (intro w hSw; (try dsimp only at hSw); go_simp; try with_reducible rfl)
          try simp only [Act.put, List.setIfInBounds_toArray, List.set_cons_zero, List.set_cons_succ]
          refine' ordS_take (i := 14) (oi := { dst := some 206, op := Op.load 50 (Operand.tmp 205), type := 50, pos := _, after := #[{ on := 13, ground := Ground.data }], guard := none }) (v := _) rfl (by kernel_rfl) (by kernel_rfl) (by kernel_rfl) (by kernel_rfl) (fun _ _ _ h => h) (by assumption) (Or.inl ⟨by rfl, ?hy69⟩) (fun _ => rfl) ?rest69
          case hy69 => (intro w hSw; (try dsimp only at hSw); go_simp; try with_reducible rfl)
          try simp only [Act.put, List.setIfInBounds_toArray, List.set_cons_zero, List.set_cons_succ]
          refine' ordS_take (i := 15) (oi := { dst := some 207, op := Op.move (Operand.tmp 21), type := 3, pos := _, after := #[], guard := none }) (v := _) rfl (by kernel_rfl) (by kernel_rfl) (by kernel_rfl) (by kernel_rfl) (fun _ _ _ h => h) (by assumption) (Or.inl ⟨by rfl, ?hy70⟩) (fun _ => rfl) ?rest70
          case hy70 => (intro w hSw; (try dsimp only at hSw); go_simp; try with_reducible rfl)
          try simp only [Act.put, List.setIfInBounds_toArray, List.set_cons_zero, List.set_cons_succ]
          refine' ordS_take (i := 16) (oi := { dst := some 208, op := Op.indexAddr 50 (Operand.tmp 206) (Operand.tmp 207), type := 0, pos := _, after := #[{ on := 14, ground := Ground.data }, { on := 15, ground := Ground.data }], guard := none }) (v := _) rfl (by kernel_rfl) (by kernel_rfl) (by kernel_rfl) (by kernel_rfl) (fun _ _ _ h => h) (by assumption) (Or.inl ⟨by rfl, ?hy71⟩) (fun _ => rfl) ?rest71
          case hy71 => (intro w hSw; (try dsimp only at hSw); go_simp; try with_reducible rfl)
          try simp only [Act.put, List.setIfInBounds_toArray, List.set_cons_zero, List.set_cons_succ]
          refine' ordS_take (i := 17) (oi := { dst := some 209, op := Op.load 3 (Operand.tmp 208), type := 3, pos := _, after := #[{ on := 16, ground := Ground.data }], guard := none }) (v := _) rfl (by kernel_rfl) (by kernel_rfl) (by kernel_rfl) (by kernel_rfl) (fun _ _ _ h => h) (by assumption) (Or.inl ⟨by rfl, ?hy72⟩) (fun _ => rfl) ?rest72
          case hy72 => (intro w hSw; (try dsimp only at hSw); go_simp; try with_reducible rfl)
          try simp only [Act.put, List.setIfInBounds_toArray, List.set_cons_zero, List.set_cons_succ]
          refine' ordS_take (i := 18) (oi := { dst := some 210, op := Op.binOp BinOp.geq 3 (Operand.tmp 209) (Operand.const (Value.int IntKind.i64 0)) 3, type := 4, pos := _, after := #[{ on := 17, ground := Ground.data }], guard := none }) (v := _) rfl (by kernel_rfl) (by kernel_rfl) (by kernel_rfl) (by kernel_rfl) (fun _ _ _ h => h) (by assumption) (Or.inl ⟨by rfl, ?hy73⟩) (fun _ => rfl) ?rest73
          case hy73 => (intro w hSw; (try dsimp only at hSw); go_simp; try with_reducible rfl)
          try simp only [Act.put, List.setIfInBounds_toArray, List.set_cons_zero, List.set_cons_succ]
          refine ordS_one (i := 10) (o := { dst := some 202, op := Op.call { callee := Callee.value (Operand.func 22), args := #[Operand.tmp 192, Operand.tmp 201], argTypes := #[41, 26] }, type := 4, pos := _, after := #[{ on := 0, ground := Ground.data }, { on := 9, ground := Ground.data }], guard := none }) (by kernel_rfl) rfl (by rfl) (fun K hK => ?_)
          go_simp
          refine ⟨trivial, (callsIn_wide.2 (HHAS.out _ HJD.out.2.1)).mono ?_⟩
          rintro e w12 ⟨rfl, hb⟩
          have hc := And.intro (cell_later hb HC.out.1) (And.intro (cell_later hb HC.out.2.1) (cell_later hb HC.out.2.2))
          have HJE := Lib.hid (show RFogAt w12 B2 gr X Y (.slice (some ⟨hr0, 0, none⟩) N capr) (costR ms) v ∧ MaskAt w12 b hb' X Y (explK ms (List.replicate ((X * Y + 7) / 8).toNat 0) ms.length) ∧ Below w.heap.size w w12 ∧ w12.cell? ⟨w.heap.size, 0, none⟩ = some (.int .i64 X) from ⟨HJD.out.1.below hb, HJD.out.2.1.below hb, bl_tr HJD.out.2.2.1 hb, cell_later hb HJD.out.2.2.2⟩)
          refine hK _ _ hc ?_
          clear hK K hH hb
          try simp only [Act.put, List.setIfInBounds_toArray, List.set_cons_zero, List.set_cons_succ]
          have hH := hc
          refine' ordS_take (i := 19) (oi := { dst := some 211, op := Op.binOp BinOp.neq 4 (Operand.tmp 202) (Operand.tmp 210) 4, type := 4, pos := _, after := #[{ on := 10, ground := Ground.data }, { on := 18, ground := Ground.data }], guard := none }) (v := _) rfl (by kernel_rfl) (by kernel_rfl) (by kernel_rfl) (by kernel_rfl) (fun _ _ _ h => h) (by assumption) (Or.inl ⟨by rfl, ?hy74⟩) (fun _ => rfl) ?rest74
          case hy74 => (intro w hSw; (try dsimp only at hSw); go_simp; try with_reducible rfl)
          try simp only [Act.put, List.setIfInBounds_toArray, List.set_cons_zero, List.set_cons_succ]
          refine ordS_done (by kernel_rfl) ?_
          clear hH hc hrem hquo hwr hX0 ht htt
          go_wp2
          go_roundw
          case rel => exact ⟨j + 1, by omega, by go_num, HJE⟩
          case measure => simp [intOf]; omega
        · obtain rfl : j = N := by omega
          have hge2 : ¬ (j : Int) < (j : Int) := by omega
          have hA := HJ.out.2.2.1
          clear HJ
          go_wp2_with fail
          refine (fawake _).mono ?_
          rintro e w12 ⟨rfl, hb9⟩
          have HA9 := Lib.hid (bl_tr hA hb9)
          clear hA hb9
          go_wp2
          go_ret
          exact ⟨rfl, HA9.out⟩
end Go.Proofs.Ytccokdfkmppohaa
