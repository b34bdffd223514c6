/- FogClone: the law's walk. -/
import Derived.Test.YtmcgkoleaomjlaaQ2
import Derived.Test.YtmcgkoleaomjlaaQ3
namespace Go.Proofs.Ytmcgkoleaomjlaa
open Go.RowKit Go.Shelf
attribute [local go_sem] Oper.semAt_some

theorem field_cost (a b : Int) (v : Option Addr) (n c : Nat) (W : World) : (Instr.field 37 (.agg #[.int .i64 a, .int .i64 b, .slice v n c]) 1).run Try.prog W = .ok (.slice v n c) W := by kernel_rfl
theorem RowL.take {W : World} {a : Option Addr} {ls : List LookD} (h : RowL W a ls) (k : Nat) : RowL W a (ls.take k) := by
  rcases h with rfl | ⟨b, o, h1, h2⟩
  · exact .inl (by simp)
  · refine .inr ⟨b, o, h1, fun i l hl => h2 i l ?_⟩
    rw [List.getElem?_take] at hl
    split at hl
    · exact hl
    · cases hl


/-- What the loop over the view holds. -/
def ViewI (w9 : World) (hv N : Nat) (_ : Nat) (W : World) : Prop := (∃ cur : Array Value, W.heap[hv]? = some (.cells cur 53 (0, 0)) ∧ cur.size = N) ∧ w9.grownBy W (some hv) ∧ W.cell? ⟨w9.heap.size, 2, none⟩ = some (.slice (some ⟨hv, 0, none⟩) N N)
/-- What the law's loop holds. -/
def CloneI (w : World) (ga ha pa gb hb pb gc hc pc : Nat) (X Y : Int) (s : List (Option Int) × Int) (ls : List LookD) (k : Nat) (W : World) : Prop :=
  FogAt W w.heap.size gc hc pc X Y (looksL X Y (ls.take k)).1 (looksL X Y (ls.take k)).2 ∧ FogAt W w.heap.size ga ha pa X Y s.1 s.2 ∧ FogAt W w.heap.size gb hb pb X Y s.1 s.2 ∧ Below w.heap.size w W ∧
    W.cell? ⟨w.heap.size, 0, none⟩ = some (.int .i64 X) ∧ W.cell? ⟨w.heap.size, 1, none⟩ = some (.int .i64 Y)
set_option maxRecDepth 100000 in
set_option maxHeartbeats 4000000 in
theorem fclone_walk (X Y at_ : Int) (a : Option Addr) (cap : Nat) (ls : List LookD) (w : World) (hr : RowL w a ls) (hcap : ls.length ≤ cap) :
    Calls Try.prog 7 #[.agg #[.int .i64 X, .int .i64 Y], .slice a ls.length cap, .int .i64 at_] w fun e w' => e = .returned (.bool true) ∧ Below w.heap.size w w' := by
  have hA := bl0 w
  have hfc := field_cost 0 0 none 0 0
  have HCAP := Lib.hid hcap
  clear hcap
  go_enter Try.func7, Try.ntmps7
  go_wp2_with fail
  refine (known_nil _ _ _).mono ?_
  rintro e w1 ⟨rfl, hb⟩
  have hk : Below w.heap.size w w1 := by first | exact hb | exact bl_tr (bl_al (bl0 _) _) hb | exact bl_tr (bl_dr (bl_al (bl0 _) _)) hb | exact bl_tr (bl_al (bl_al (bl0 _) _) _) hb | exact bl_tr (bl_dr (bl_al (bl_al (bl0 _) _) _)) hb | exact bl_tr (bl_al (bl_al (bl_al (bl0 _) _) _) _) hb | exact bl_tr (bl_dr (bl_al (bl_al (bl_al (bl0 _) _) _) _)) hb | exact bl_tr (bl_al (bl_al (bl_al (bl_al (bl0 _) _) _) _) _) hb | exact bl_tr (bl_dr (bl_al (bl_al (bl_al (bl_al (bl0 _) _) _) _) _)) hb | exact bl_tr (bl_al (bl_al (bl_al (bl_al (bl_al (bl0 _) _) _) _) _) _) hb | exact bl_tr (bl_dr (bl_al (bl_al (bl_al (bl_al (bl_al (bl0 _) _) _) _) _) _)) hb | exact bl_tr (bl_al (bl_al (bl_al (bl_al (bl_al (bl_al (bl0 _) _) _) _) _) _) _) hb | exact bl_tr (bl_dr (bl_al (bl_al (bl_al (bl_al (bl_al (bl_al (bl0 _) _) _) _) _) _) _)) hb | exact bl_tr (bl_dr (bl0 _)) hb
  replace hA := bl_tr hA hk
  have f0 := cell_later hb (v := .int .i64 X) (a := ⟨w.heap.size, 0, none⟩) (by simp [go_sem])
  have f1 := cell_later hb (v := .int .i64 Y) (a := ⟨w.heap.size, 1, none⟩) (by simp [go_sem])
  clear hb hk
  have zf0 := blk_lt f0
  have zf1 := blk_lt f1
  go_wp2_with fail
  refine (merge_nil1 0 0 none 0 0 none _).mono ?_
  rintro e w2 ⟨rfl, hb⟩
  have hk : Below w1.heap.size w1 w2 := by first | exact hb | exact bl_tr (bl_al (bl0 _) _) hb | exact bl_tr (bl_dr (bl_al (bl0 _) _)) hb | exact bl_tr (bl_al (bl_al (bl0 _) _) _) hb | exact bl_tr (bl_dr (bl_al (bl_al (bl0 _) _) _)) hb | exact bl_tr (bl_al (bl_al (bl_al (bl0 _) _) _) _) hb | exact bl_tr (bl_dr (bl_al (bl_al (bl_al (bl0 _) _) _) _)) hb | exact bl_tr (bl_al (bl_al (bl_al (bl_al (bl0 _) _) _) _) _) hb | exact bl_tr (bl_dr (bl_al (bl_al (bl_al (bl_al (bl0 _) _) _) _) _)) hb | exact bl_tr (bl_al (bl_al (bl_al (bl_al (bl_al (bl0 _) _) _) _) _) _) hb | exact bl_tr (bl_dr (bl_al (bl_al (bl_al (bl_al (bl_al (bl0 _) _) _) _) _) _)) hb | exact bl_tr (bl_al (bl_al (bl_al (bl_al (bl_al (bl_al (bl0 _) _) _) _) _) _) _) hb | exact bl_tr (bl_dr (bl_al (bl_al (bl_al (bl_al (bl_al (bl_al (bl0 _) _) _) _) _) _) _)) hb | exact bl_tr (bl_dr (bl0 _)) hb
  replace hA := bl_tr hA hk
  replace f0 := cell_later hk f0
  replace f1 := cell_later hk f1
  clear hb hk
  have zf0 := blk_lt f0
  have zf1 := blk_lt f1
  go_wp2_with fail
  refine (expl_nil _).mono ?_
  rintro e w3 ⟨rfl, rfl⟩
  go_wp2_with fail
  refine (view_nil _).mono ?_
  rintro e w4 ⟨rfl, hb⟩
  replace f0 := cell_later hb f0
  replace f1 := cell_later hb f1
  replace hA := bl_tr hA hb
  clear hb
  go_wp2_with fail
  refine (version_nil _).mono ?_
  rintro e w5 ⟨rfl, rfl⟩
  go_wp2_with fail
  refine (fclone_nil _).mono ?_
  rintro e w6 ⟨rfl, rfl⟩
  go_wp2_with fail
  refine (fsame_nils _).mono ?_
  rintro e w7 ⟨rfl, rfl⟩
  clear hfc
  have key : Hid (fewB X Y ls = false) ∨ (Hid (fewB X Y ls = true) ∧ Hid (mayB X Y = false)) ∨ (Hid (fewB X Y ls = true) ∧ Hid (mayB X Y = true) ∧ at_ < 0) ∨ (Hid (fewB X Y ls = true) ∧ Hid (mayB X Y = true) ∧ ¬ at_ < 0 ∧ (ls.length : Int) < at_) ∨
      (Hid (fewB X Y ls = true) ∧ Hid (mayB X Y = true) ∧ ∃ n : Nat, Hid (at_ = n) ∧ n ≤ ls.length) := by
    cases h1 : fewB X Y ls with
    | false => exact .inl (Lib.hid rfl)
    | true =>
      cases h2 : mayB X Y with
      | false => exact .inr (.inl ⟨Lib.hid rfl, Lib.hid rfl⟩)
      | true =>
        by_cases h3 : at_ < 0
        · exact .inr (.inr (.inl ⟨Lib.hid rfl, Lib.hid rfl, h3⟩))
        · by_cases h4 : (ls.length : Int) < at_
          · exact .inr (.inr (.inr (.inl ⟨Lib.hid rfl, Lib.hid rfl, h3, h4⟩)))
          · exact .inr (.inr (.inr (.inr ⟨Lib.hid rfl, Lib.hid rfl, at_.toNat, Lib.hid (by omega), by omega⟩)))
  go_wp2_with fail
  refine (few_any _ _ _ _ _ _ (hr.below hA)).mono ?_
  rintro e w8 ⟨rfl, hb⟩
  replace f0 := cell_later hb f0
  replace f1 := cell_later hb f1
  replace hA := bl_tr hA hb
  have zf0 := blk_lt f0
  clear hb
  rcases key with H1 | ⟨H1, H2⟩ | ⟨H1, H2, h3⟩ | ⟨H1, H2, h3, h4⟩ | ⟨H1, H2, n, HN, hn⟩
  · rw [H1.out]
    go_wp2_with fail
    refine (fawake _).mono ?_
    rintro e w9 ⟨rfl, hb9⟩
    have hA9 := bl_tr hA hb9
    clear hA hb9
    go_wp2
    go_ret
    exact ⟨rfl, hA9⟩
  · rw [H1.out]
    go_wp2_with fail
    refine (may_any _ _ _).mono ?_
    rintro e w9 ⟨rfl, hb⟩
    replace f0 := cell_later hb f0
    replace f1 := cell_later hb f1
    replace hA := bl_tr hA hb
    rw [H2.out]
    clear hb
    go_wp2_with fail
    refine (fawake _).mono ?_
    rintro e w9 ⟨rfl, hb9⟩
    have hA9 := bl_tr hA hb9
    clear hA hb9
    go_wp2
    go_ret
    exact ⟨rfl, hA9⟩
  · rw [H1.out]
    go_wp2_with fail
    refine (may_any _ _ _).mono ?_
    rintro e w9 ⟨rfl, hb⟩
    replace f0 := cell_later hb f0
    replace f1 := cell_later hb f1
    replace hA := bl_tr hA hb
    rw [H2.out]
    clear hb
    go_wp2_with fail
    refine (fawake _).mono ?_
    rintro e w9 ⟨rfl, hb9⟩
    have hA9 := bl_tr hA hb9
    clear hA hb9
    go_wp2
    go_ret
    exact ⟨rfl, hA9⟩
  · rw [H1.out]
    go_wp2_with fail
    refine (may_any _ _ _).mono ?_
    rintro e w9 ⟨rfl, hb⟩
    replace f0 := cell_later hb f0
    replace f1 := cell_later hb f1
    replace hA := bl_tr hA hb
    rw [H2.out]
    clear hb
    go_wp2_with fail
    refine (fawake _).mono ?_
    rintro e w9 ⟨rfl, hb9⟩
    have hA9 := bl_tr hA hb9
    clear hA hb9
    go_wp2
    go_ret
    exact ⟨rfl, hA9⟩
  · rw [H1.out]
    obtain rfl := HN.out
    have hn0 : ¬ (n : Int) < 0 := by omega
    have hn1 : ¬ (ls.length : Int) < (n : Int) := by omega
    have hn2 : (n : Int) ≤ (cap : Int) := by have := HCAP.out; omega
    have hn3 : (0 : Int) ≤ (n : Int) := by omega
    have hn4 : ¬ (cap : Int) < (n : Int) := by omega
    go_wp2_with fail
    refine (may_any _ _ _).mono ?_
    rintro e w9 ⟨rfl, hb⟩
    replace f0 := cell_later hb f0
    replace f1 := cell_later hb f1
    replace hA := bl_tr hA hb
    rw [H2.out]
    clear hb
    clear HN
    go_wp2
    refine (wpIn_wide (n := 11)).1 ?_
    have hD := bl_dr (bl0 w9)
    refine ordS_begin (S := (fun w' : World => w'.cell? ⟨w.heap.size, 0, none⟩ = some (.int .i64 X) ∧ w'.cell? ⟨w.heap.size, 1, none⟩ = some (.int .i64 Y))) (by kernel_rfl) ⟨cell_later hD f0, cell_later hD f1⟩ (fun hH => ?_)
    first
      | (refine' ordS_take (i := 0) (oi := { dst := some 93, op := Op.load 23 (Operand.tmp 3), type := 23, pos := _, after := #[], guard := none }) (v := _) rfl (by kernel_rfl) (by kernel_rfl) (by kernel_rfl) (by kernel_rfl) (fun _ _ _ h => h) (by assumption) (Or.inl ⟨by rfl, ?hy1⟩) (fun _ => rfl) ?rest1
         case hy1 => (intro w hSw; (try dsimp only at hSw); go_simp; try with_reducible rfl))
      | (refine ordS_take (i := 0) (oi := { dst := some 93, op := Op.load 23 (Operand.tmp 3), type := 23, pos := _, after := #[], guard := none }) (v := undef) rfl (by kernel_rfl) (by kernel_rfl) (by kernel_rfl) (by kernel_rfl) (fun _ _ _ h => h) (by assumption) (Or.inr ⟨by rfl, rfl⟩) (fun _ => rfl) ?_)
    try simp only [Act.put, List.setIfInBounds_toArray, List.set_cons_zero, List.set_cons_succ]
    first
      | (refine' ordS_take (i := 1) (oi := { dst := some 94, op := Op.move (Operand.tmp 1), type := 24, pos := _, after := #[], guard := none }) (v := _) rfl (by kernel_rfl) (by kernel_rfl) (by kernel_rfl) (by kernel_rfl) (fun _ _ _ h => h) (by assumption) (Or.inl ⟨by rfl, ?hy2⟩) (fun _ => rfl) ?rest2
         case hy2 => (intro w hSw; (try dsimp only at hSw); go_simp; try with_reducible rfl))
      | (refine ordS_take (i := 1) (oi := { dst := some 94, op := Op.move (Operand.tmp 1), type := 24, pos := _, after := #[], guard := none }) (v := undef) rfl (by kernel_rfl) (by kernel_rfl) (by kernel_rfl) (by kernel_rfl) (fun _ _ _ h => h) (by assumption) (Or.inr ⟨by rfl, rfl⟩) (fun _ => rfl) ?_)
    try simp only [Act.put, List.setIfInBounds_toArray, List.set_cons_zero, List.set_cons_succ]
    first
      | (refine' ordS_take (i := 2) (oi := { dst := some 95, op := Op.move (Operand.tmp 2), type := 3, pos := _, after := #[], guard := none }) (v := _) rfl (by kernel_rfl) (by kernel_rfl) (by kernel_rfl) (by kernel_rfl) (fun _ _ _ h => h) (by assumption) (Or.inl ⟨by rfl, ?hy3⟩) (fun _ => rfl) ?rest3
         case hy3 => (intro w hSw; (try dsimp only at hSw); go_simp; try with_reducible rfl))
      | (refine ordS_take (i := 2) (oi := { dst := some 95, op := Op.move (Operand.tmp 2), type := 3, pos := _, after := #[], guard := none }) (v := undef) rfl (by kernel_rfl) (by kernel_rfl) (by kernel_rfl) (by kernel_rfl) (fun _ _ _ h => h) (by assumption) (Or.inr ⟨by rfl, rfl⟩) (fun _ => rfl) ?_)
    try simp only [Act.put, List.setIfInBounds_toArray, List.set_cons_zero, List.set_cons_succ]
    first
      | (refine' ordS_take (i := 3) (oi := { dst := some 96, op := Op.slice 24 (Operand.tmp 94) none (some (Operand.tmp 95)) none, type := 24, pos := _, after := #[{ on := 1, ground := Ground.data }, { on := 2, ground := Ground.data }], guard := none }) (v := _) rfl (by kernel_rfl) (by kernel_rfl) (by kernel_rfl) (by kernel_rfl) (fun _ _ _ h => h) (by assumption) (Or.inl ⟨by rfl, ?hy4⟩) (fun _ => rfl) ?rest4
         case hy4 => (intro w hSw; (try dsimp only at hSw); go_simp; try with_reducible rfl))
      | (refine ordS_take (i := 3) (oi := { dst := some 96, op := Op.slice 24 (Operand.tmp 94) none (some (Operand.tmp 95)) none, type := 24, pos := _, after := #[{ on := 1, ground := Ground.data }, { on := 2, ground := Ground.data }], guard := none }) (v := undef) rfl (by kernel_rfl) (by kernel_rfl) (by kernel_rfl) (by kernel_rfl) (fun _ _ _ h => h) (by assumption) (Or.inr ⟨by rfl, rfl⟩) (fun _ => rfl) ?_)
    try simp only [Act.put, List.setIfInBounds_toArray, List.set_cons_zero, List.set_cons_succ]
    refine ordS_one (i := 4) (o := { dst := some 97, op := Op.call { callee := Callee.value (Operand.func 35), args := #[Operand.tmp 93, Operand.tmp 96], argTypes := #[23, 24] }, type := 29, pos := _, after := #[{ on := 0, ground := Ground.data }, { on := 3, ground := Ground.data }], guard := none }) (by kernel_rfl) rfl (by rfl) (fun K hK => ?_)
    go_simp
    have hT : (ls.take n).length = n := by rw [List.length_take]; omega
    obtain ⟨_, hl20, hok⟩ := few_iff H1.out
    have HOK := Lib.hid (show ∀ l ∈ ls, l.zs.length ≤ 1000 from fun l hl => Nat.le_trans (okL_iff (hok l hl)).2 (by decide))
    clear hok
    have hcall := fun (W : World) (hb : Below w.heap.size w W) => looks_any X Y a cap (ls.take n) W H2.out ((hr.below hb).take n) (by omega) (fun l hl => HOK.out l (List.mem_of_mem_take hl))
    rw [hT] at hcall
    have hcw := fun (W : World) (hb : Below w.heap.size w W) => looks_any X Y a cap ls W H2.out (hr.below hb) (by omega) HOK.out
    have VS := Lib.hid (looksL_ver X Y (ls.take n))
    have LS := Lib.hid (looksL_len X Y (ls.take n) H2.out)
    obtain ⟨s, hs⟩ : ∃ s, looksL X Y (ls.take n) = s := ⟨_, rfl⟩
    have HS := Lib.hid hs
    unfold LooksP at hcall
    rw [hs] at hcall VS LS
    have HC := Lib.hid hcall
    have HCW := Lib.hid hcw
    have hl2 : (ls.length : Int) ≤ 20 := by omega
    have hnl : (n : Int) ≤ (ls.length : Int) := by omega
    clear hcall hcw hs hT
    refine ⟨trivial, (callsIn_wide.2 (HC.out _ (bl_tr hA hD))).mono ?_⟩
    rintro e w10 ⟨ga, ha, pa, rfl, Fa, hb⟩
    have hdz : w9.drew.heap.size = w9.heap.size := rfl
    have hB2 := bl_tr hD hb
    have z9 := hA.size
    have lFa := Fa.lt
    have lga := Fa.1
    rw [hdz] at lFa lga
    replace f0 := cell_later hB2 f0
    replace f1 := cell_later hB2 f1
    have hA10 := bl_tr hA hB2
    have hS2 : (fun w' : World => w'.cell? ⟨w.heap.size, 0, none⟩ = some (.int .i64 X) ∧ w'.cell? ⟨w.heap.size, 1, none⟩ = some (.int .i64 Y)) w10 := ⟨f0, f1⟩
    refine hK _ _ hS2 ?_
    clear hK K
    try simp only [Act.put, List.setIfInBounds_toArray, List.set_cons_zero, List.set_cons_succ]
    first
      | (refine' ordS_take (i := 5) (oi := { dst := some 12, op := Op.assign (Operand.tmp 97), type := 29, pos := _, after := #[{ on := 4, ground := Ground.data }, { on := 4, ground := Ground.chain }, { on := 0, ground := Ground.phase }, { on := 1, ground := Ground.phase }, { on := 2, ground := Ground.phase }, { on := 3, ground := Ground.phase }, { on := 4, ground := Ground.phase }], guard := none }) (v := _) rfl (by kernel_rfl) (by kernel_rfl) (by kernel_rfl) (by kernel_rfl) (fun _ _ _ h => h) (by assumption) (Or.inl ⟨by rfl, ?hy5⟩) (fun _ => rfl) ?rest5
         case hy5 => (intro w hSw; (try dsimp only at hSw); go_simp; try with_reducible rfl))
      | (refine ordS_take (i := 5) (oi := { dst := some 12, op := Op.assign (Operand.tmp 97), type := 29, pos := _, after := #[{ on := 4, ground := Ground.data }, { on := 4, ground := Ground.chain }, { on := 0, ground := Ground.phase }, { on := 1, ground := Ground.phase }, { on := 2, ground := Ground.phase }, { on := 3, ground := Ground.phase }, { on := 4, ground := Ground.phase }], guard := none }) (v := undef) rfl (by kernel_rfl) (by kernel_rfl) (by kernel_rfl) (by kernel_rfl) (fun _ _ _ h => h) (by assumption) (Or.inr ⟨by rfl, rfl⟩) (fun _ => rfl) ?_)
    try simp only [Act.put, List.setIfInBounds_toArray, List.set_cons_zero, List.set_cons_succ]
    refine ordS_done (by kernel_rfl) ?_
    replace Fa := fog_same Fa (show w.heap.size ≤ _ by rw [hdz]; exact z9)
    clear hb hB2 hD hH hS2 hA hdz
    go_wp2
    refine (wpIn_wide (n := 11)).1 ?_
    have hD := bl_dr (bl0 w10)
    refine ordS_begin (S := (fun w' : World => w'.cell? ⟨w.heap.size, 0, none⟩ = some (.int .i64 X) ∧ w'.cell? ⟨w.heap.size, 1, none⟩ = some (.int .i64 Y))) (by kernel_rfl) ⟨cell_later hD f0, cell_later hD f1⟩ (fun hH => ?_)
    first
      | (refine' ordS_take (i := 0) (oi := { dst := some 98, op := Op.load 23 (Operand.tmp 3), type := 23, pos := _, after := #[], guard := none }) (v := _) rfl (by kernel_rfl) (by kernel_rfl) (by kernel_rfl) (by kernel_rfl) (fun _ _ _ h => h) (by assumption) (Or.inl ⟨by rfl, ?hy6⟩) (fun _ => rfl) ?rest6
         case hy6 => (intro w hSw; (try dsimp only at hSw); go_simp; try with_reducible rfl))
      | (refine ordS_take (i := 0) (oi := { dst := some 98, op := Op.load 23 (Operand.tmp 3), type := 23, pos := _, after := #[], guard := none }) (v := undef) rfl (by kernel_rfl) (by kernel_rfl) (by kernel_rfl) (by kernel_rfl) (fun _ _ _ h => h) (by assumption) (Or.inr ⟨by rfl, rfl⟩) (fun _ => rfl) ?_)
    try simp only [Act.put, List.setIfInBounds_toArray, List.set_cons_zero, List.set_cons_succ]
    first
      | (refine' ordS_take (i := 1) (oi := { dst := some 99, op := Op.move (Operand.tmp 1), type := 24, pos := _, after := #[], guard := none }) (v := _) rfl (by kernel_rfl) (by kernel_rfl) (by kernel_rfl) (by kernel_rfl) (fun _ _ _ h => h) (by assumption) (Or.inl ⟨by rfl, ?hy7⟩) (fun _ => rfl) ?rest7
         case hy7 => (intro w hSw; (try dsimp only at hSw); go_simp; try with_reducible rfl))
      | (refine ordS_take (i := 1) (oi := { dst := some 99, op := Op.move (Operand.tmp 1), type := 24, pos := _, after := #[], guard := none }) (v := undef) rfl (by kernel_rfl) (by kernel_rfl) (by kernel_rfl) (by kernel_rfl) (fun _ _ _ h => h) (by assumption) (Or.inr ⟨by rfl, rfl⟩) (fun _ => rfl) ?_)
    try simp only [Act.put, List.setIfInBounds_toArray, List.set_cons_zero, List.set_cons_succ]
    first
      | (refine' ordS_take (i := 2) (oi := { dst := some 100, op := Op.move (Operand.tmp 2), type := 3, pos := _, after := #[], guard := none }) (v := _) rfl (by kernel_rfl) (by kernel_rfl) (by kernel_rfl) (by kernel_rfl) (fun _ _ _ h => h) (by assumption) (Or.inl ⟨by rfl, ?hy8⟩) (fun _ => rfl) ?rest8
         case hy8 => (intro w hSw; (try dsimp only at hSw); go_simp; try with_reducible rfl))
      | (refine ordS_take (i := 2) (oi := { dst := some 100, op := Op.move (Operand.tmp 2), type := 3, pos := _, after := #[], guard := none }) (v := undef) rfl (by kernel_rfl) (by kernel_rfl) (by kernel_rfl) (by kernel_rfl) (fun _ _ _ h => h) (by assumption) (Or.inr ⟨by rfl, rfl⟩) (fun _ => rfl) ?_)
    try simp only [Act.put, List.setIfInBounds_toArray, List.set_cons_zero, List.set_cons_succ]
    first
      | (refine' ordS_take (i := 3) (oi := { dst := some 101, op := Op.slice 24 (Operand.tmp 99) none (some (Operand.tmp 100)) none, type := 24, pos := _, after := #[{ on := 1, ground := Ground.data }, { on := 2, ground := Ground.data }], guard := none }) (v := _) rfl (by kernel_rfl) (by kernel_rfl) (by kernel_rfl) (by kernel_rfl) (fun _ _ _ h => h) (by assumption) (Or.inl ⟨by rfl, ?hy9⟩) (fun _ => rfl) ?rest9
         case hy9 => (intro w hSw; (try dsimp only at hSw); go_simp; try with_reducible rfl))
      | (refine ordS_take (i := 3) (oi := { dst := some 101, op := Op.slice 24 (Operand.tmp 99) none (some (Operand.tmp 100)) none, type := 24, pos := _, after := #[{ on := 1, ground := Ground.data }, { on := 2, ground := Ground.data }], guard := none }) (v := undef) rfl (by kernel_rfl) (by kernel_rfl) (by kernel_rfl) (by kernel_rfl) (fun _ _ _ h => h) (by assumption) (Or.inr ⟨by rfl, rfl⟩) (fun _ => rfl) ?_)
    try simp only [Act.put, List.setIfInBounds_toArray, List.set_cons_zero, List.set_cons_succ]
    refine ordS_one (i := 4) (o := { dst := some 102, op := Op.call { callee := Callee.value (Operand.func 35), args := #[Operand.tmp 98, Operand.tmp 101], argTypes := #[23, 24] }, type := 29, pos := _, after := #[{ on := 0, ground := Ground.data }, { on := 3, ground := Ground.data }], guard := none }) (by kernel_rfl) rfl (by rfl) (fun K hK => ?_)
    go_simp
    refine ⟨trivial, (callsIn_wide.2 (HC.out _ (bl_tr hA10 hD))).mono ?_⟩
    rintro e w11 ⟨gb, hb', pb, rfl, Fb, hb⟩
    have hdz : w10.drew.heap.size = w10.heap.size := rfl
    have hB2 := bl_tr hD hb
    have z10 := hA10.size
    have lFb := Fb.lt
    have lgb := Fb.1
    rw [hdz] at lFb lgb
    replace f0 := cell_later hB2 f0
    replace f1 := cell_later hB2 f1
    replace Fa := Fa.below hB2
    have hA11 := bl_tr hA10 hB2
    have hS2 : (fun w' : World => w'.cell? ⟨w.heap.size, 0, none⟩ = some (.int .i64 X) ∧ w'.cell? ⟨w.heap.size, 1, none⟩ = some (.int .i64 Y)) w11 := ⟨f0, f1⟩
    refine hK _ _ hS2 ?_
    clear hK K
    try simp only [Act.put, List.setIfInBounds_toArray, List.set_cons_zero, List.set_cons_succ]
    first
      | (refine' ordS_take (i := 5) (oi := { dst := some 13, op := Op.assign (Operand.tmp 102), type := 29, pos := _, after := #[{ on := 4, ground := Ground.data }, { on := 4, ground := Ground.chain }, { on := 0, ground := Ground.phase }, { on := 1, ground := Ground.phase }, { on := 2, ground := Ground.phase }, { on := 3, ground := Ground.phase }, { on := 4, ground := Ground.phase }], guard := none }) (v := _) rfl (by kernel_rfl) (by kernel_rfl) (by kernel_rfl) (by kernel_rfl) (fun _ _ _ h => h) (by assumption) (Or.inl ⟨by rfl, ?hy10⟩) (fun _ => rfl) ?rest10
         case hy10 => (intro w hSw; (try dsimp only at hSw); go_simp; try with_reducible rfl))
      | (refine ordS_take (i := 5) (oi := { dst := some 13, op := Op.assign (Operand.tmp 102), type := 29, pos := _, after := #[{ on := 4, ground := Ground.data }, { on := 4, ground := Ground.chain }, { on := 0, ground := Ground.phase }, { on := 1, ground := Ground.phase }, { on := 2, ground := Ground.phase }, { on := 3, ground := Ground.phase }, { on := 4, ground := Ground.phase }], guard := none }) (v := undef) rfl (by kernel_rfl) (by kernel_rfl) (by kernel_rfl) (by kernel_rfl) (fun _ _ _ h => h) (by assumption) (Or.inr ⟨by rfl, rfl⟩) (fun _ => rfl) ?_)
    try simp only [Act.put, List.setIfInBounds_toArray, List.set_cons_zero, List.set_cons_succ]
    refine ordS_done (by kernel_rfl) ?_
    replace Fb := fog_same Fb (show w.heap.size ≤ _ by rw [hdz]; exact z10)
    clear hb hB2 hD hH hS2 hA10 hdz
    have hms : s.1.length ≤ 1048576 := by have := area_bd H2.out; have := LS.out; omega
    have hmz : s.1 ≠ [] := by have := area_bd H2.out; have := LS.out; intro e; rw [e] at this; simp at this; omega
    have HMS := Lib.hid hms
    have HMZ := Lib.hid hmz
    have b1 : (s.2 != s.2) = false := by simp
    clear hms hmz
    go_wp2_with fail
    refine (fsame_nil1 ga _).mono ?_
    rintro e w12 ⟨rfl, rfl⟩
    go_wp2_with fail
    refine (fsame_nil2 ga _).mono ?_
    rintro e w13 ⟨rfl, rfl⟩
    go_wp2_with fail
    refine (fclone_any _ _ _ _ _ _ _ _ _ Fa HMZ.out HMS.out).mono ?_
    rintro e w14 ⟨gc, hc, pc, rfl, Fc, hb⟩
    have z13 := hA11.size
    have lFc := Fc.lt
    have lgc := Fc.1
    replace f0 := cell_later hb f0
    replace f1 := cell_later hb f1
    replace Fa := Fa.below hb
    replace Fb := Fb.below hb
    replace Fc := fog_same Fc z13
    have hA14 := bl_tr hA11 hb
    clear hb hA11
    go_wp2_with fail
    refine (fsame_eq _ _ _ _ _ _ _ _ _ _ _ _ _ _ Fc Fa HMS.out).mono ?_
    rintro e w15 ⟨rfl, hb⟩
    replace f0 := cell_later hb f0
    replace f1 := cell_later hb f1
    replace Fa := Fa.below hb
    replace Fb := Fb.below hb
    replace Fc := Fc.below hb
    have hA15 := bl_tr hA14 hb
    clear hb hA14
    go_wp2_with fail
    refine (fsame_eq _ _ _ _ _ _ _ _ _ _ _ _ _ _ Fa Fb HMS.out).mono ?_
    rintro e w16 ⟨rfl, hb⟩
    replace f0 := cell_later hb f0
    replace f1 := cell_later hb f1
    replace Fa := Fa.below hb
    replace Fb := Fb.below hb
    replace Fc := Fc.below hb
    have hA16 := bl_tr hA15 hb
    clear hb hA15
    go_wp2_with fail
    refine (version_any _ _ _ _ _ _ _ _ _ Fc).mono ?_
    rintro e w17 ⟨rfl, rfl⟩
    go_wp2_with fail
    refine (version_any _ _ _ _ _ _ _ _ _ Fa).mono ?_
    rintro e w18 ⟨rfl, rfl⟩
    have hI : CloneI w ga ha pa gb hb' pb gc hc pc X Y s ls n w18 := ⟨by rw [HS.out]; exact Fc, Fa, Fb, hA16, f0, f1⟩
    have HI := Lib.hid hI
    clear hI Fa Fb Fc hA16 f0 f1
    have y1 : ga < gc ∧ ha < gc ∧ gb < gc ∧ hb' < gc := ⟨by omega, by omega, by omega, by omega⟩
    have y2 : ga < hc ∧ ha < hc ∧ gb < hc ∧ hb' < hc := ⟨by omega, by omega, by omega, by omega⟩
    have y3 : w.heap.size < gc ∧ w.heap.size < hc := ⟨by omega, by omega⟩
    clear lFa lFb lFc lga lgb lgc z9 z10 z13
    go_wp2
    go_loopw [15] (fun i wr => ∃ k : Nat, n ≤ k ∧ k ≤ ls.length ∧ i = .int .i64 k ∧ CloneI w ga ha pa gb hb' pb gc hc pc X Y s ls k wr) (fun i _ => ls.length - (intOf i).toNat)
    case atStart => exact ⟨n, Nat.le_refl _, by omega, rfl, HI.out⟩
    case round =>
      obtain ⟨k, hnk, hk, rfl, Fc, Fa, Fb, hAr, f0, f1⟩ := hrel
      clear HI
      by_cases hlt : k < ls.length
      · have hlt2 : (k : Int) < (ls.length : Int) := by omega
        have hk0 : (0 : Int) ≤ (k : Int) := by omega
        obtain ⟨l, hl⟩ : ∃ l, ls[k]? = some l := ⟨_, List.getElem?_eq_getElem hlt⟩
        obtain ⟨gl, go, rfl, q0, q1, q2, q3, qh, qc⟩ := hr.cell hl
        have hzl := HOK.out l (List.mem_of_getElem? hl)
        have HST := Lib.hid (show looksL X Y (ls.take (k + 1)) = stepL X Y (looksL X Y (ls.take k)) l by
          rw [List.take_add_one, hl]; exact looksL_snoc X Y _ l)
        have hah : ∀ gb o, l.fs ≠ [] → l.a = some ⟨gb, o, none⟩ → gb ≠ hc := by
          rintro gb o hne e rfl
          rcases qh with h0 | ⟨b', o', e', h'⟩
          · exact hne h0
          · rw [e] at e'
            cases e'
            have hp := List.length_pos_iff.2 hne
            have := blk_lt (h' 0 _ (List.getElem?_eq_getElem hp))
            omega
        have zq := blk_lt q0
        replace q0 := cell_later hAr q0
        replace q1 := cell_later hAr q1
        replace q2 := cell_later hAr q2
        replace q3 := cell_later hAr q3
        replace qh := qh.below hAr
        replace qc := qc.below hAr
        have hv := looksL_ver X Y (ls.take k)
        have hlen := looksL_len X Y (ls.take k) H2.out
        have hvl : (ls.take k).length ≤ 20 := Nat.le_trans (List.length_take_le' _ _) (by omega)
        obtain ⟨t, ht⟩ : ∃ s, looksL X Y (ls.take k) = s := ⟨_, rfl⟩
        rw [ht] at Fc HST hv hlen
        have hv1 : 0 ≤ t.2 := hv.1
        have hv2 : t.2 ≤ 1048576 := by omega
        have HLEN := Lib.hid hlen
        have HAH := Lib.hid hah
        clear hl ht hv hlen hah hvl
        obtain ⟨A, B, fa, fc, fs, ca, cc, zs⟩ := l
        dsimp only at q0 q1 q2 q3 qh qc hzl HAH
        go_wp2
        refine (wpIn_wide (n := 11)).1 ?_
        have hD := bl_dr (bl0 wr)
        refine ordS_begin (S := (fun w' : World => w'.cell? ⟨gl, go + k * 4, none⟩ = some (.int .i64 A) ∧ w'.cell? ⟨gl, go + k * 4 + 1, none⟩ = some (.int .i64 B) ∧ w'.cell? ⟨gl, go + k * 4 + 2, none⟩ = some (.slice fa fs.length fc) ∧ w'.cell? ⟨gl, go + k * 4 + 3, none⟩ = some (.slice ca zs.length cc))) (by kernel_rfl) ⟨cell_later hD q0, cell_later hD q1, cell_later hD q2, cell_later hD q3⟩ (fun hH => ?_)
        first
          | (refine' ordS_take (i := 0) (oi := { dst := some 149, op := Op.move (Operand.tmp 14), type := 29, pos := _, after := #[], guard := none }) (v := _) rfl (by kernel_rfl) (by kernel_rfl) (by kernel_rfl) (by kernel_rfl) (fun _ _ _ h => h) (by assumption) (Or.inl ⟨by rfl, ?hy11⟩) (fun _ => rfl) ?rest11
             case hy11 => (intro w hSw; (try dsimp only at hSw); go_simp; try with_reducible rfl))
          | (refine ordS_take (i := 0) (oi := { dst := some 149, op := Op.move (Operand.tmp 14), type := 29, pos := _, after := #[], guard := none }) (v := undef) rfl (by kernel_rfl) (by kernel_rfl) (by kernel_rfl) (by kernel_rfl) (fun _ _ _ h => h) (by assumption) (Or.inr ⟨by rfl, rfl⟩) (fun _ => rfl) ?_)
        try simp only [Act.put, List.setIfInBounds_toArray, List.set_cons_zero, List.set_cons_succ]
        first
          | (refine' ordS_take (i := 1) (oi := { dst := some 150, op := Op.move (Operand.tmp 1), type := 24, pos := _, after := #[], guard := none }) (v := _) rfl (by kernel_rfl) (by kernel_rfl) (by kernel_rfl) (by kernel_rfl) (fun _ _ _ h => h) (by assumption) (Or.inl ⟨by rfl, ?hy12⟩) (fun _ => rfl) ?rest12
             case hy12 => (intro w hSw; (try dsimp only at hSw); go_simp; try with_reducible rfl))
          | (refine ordS_take (i := 1) (oi := { dst := some 150, op := Op.move (Operand.tmp 1), type := 24, pos := _, after := #[], guard := none }) (v := undef) rfl (by kernel_rfl) (by kernel_rfl) (by kernel_rfl) (by kernel_rfl) (fun _ _ _ h => h) (by assumption) (Or.inr ⟨by rfl, rfl⟩) (fun _ => rfl) ?_)
        try simp only [Act.put, List.setIfInBounds_toArray, List.set_cons_zero, List.set_cons_succ]
        first
          | (refine' ordS_take (i := 2) (oi := { dst := some 151, op := Op.move (Operand.tmp 15), type := 3, pos := _, after := #[], guard := none }) (v := _) rfl (by kernel_rfl) (by kernel_rfl) (by kernel_rfl) (by kernel_rfl) (fun _ _ _ h => h) (by assumption) (Or.inl ⟨by rfl, ?hy13⟩) (fun _ => rfl) ?rest13
             case hy13 => (intro w hSw; (try dsimp only at hSw); go_simp; try with_reducible rfl))
          | (refine ordS_take (i := 2) (oi := { dst := some 151, op := Op.move (Operand.tmp 15), type := 3, pos := _, after := #[], guard := none }) (v := undef) rfl (by kernel_rfl) (by kernel_rfl) (by kernel_rfl) (by kernel_rfl) (fun _ _ _ h => h) (by assumption) (Or.inr ⟨by rfl, rfl⟩) (fun _ => rfl) ?_)
        try simp only [Act.put, List.setIfInBounds_toArray, List.set_cons_zero, List.set_cons_succ]
        first
          | (refine' ordS_take (i := 3) (oi := { dst := some 152, op := Op.indexAddr 24 (Operand.tmp 150) (Operand.tmp 151), type := 0, pos := _, after := #[{ on := 1, ground := Ground.data }, { on := 2, ground := Ground.data }], guard := none }) (v := _) rfl (by kernel_rfl) (by kernel_rfl) (by kernel_rfl) (by kernel_rfl) (fun _ _ _ h => h) (by assumption) (Or.inl ⟨by rfl, ?hy14⟩) (fun _ => rfl) ?rest14
             case hy14 => (intro w hSw; (try dsimp only at hSw); go_simp; try with_reducible rfl))
          | (refine ordS_take (i := 3) (oi := { dst := some 152, op := Op.indexAddr 24 (Operand.tmp 150) (Operand.tmp 151), type := 0, pos := _, after := #[{ on := 1, ground := Ground.data }, { on := 2, ground := Ground.data }], guard := none }) (v := undef) rfl (by kernel_rfl) (by kernel_rfl) (by kernel_rfl) (by kernel_rfl) (fun _ _ _ h => h) (by assumption) (Or.inr ⟨by rfl, rfl⟩) (fun _ => rfl) ?_)
        try simp only [Act.put, List.setIfInBounds_toArray, List.set_cons_zero, List.set_cons_succ]
        first
          | (refine' ordS_take (i := 4) (oi := { dst := some 153, op := Op.fieldAddr 40 (Operand.tmp 152) 0, type := 0, pos := _, after := #[{ on := 3, ground := Ground.data }], guard := none }) (v := _) rfl (by kernel_rfl) (by kernel_rfl) (by kernel_rfl) (by kernel_rfl) (fun _ _ _ h => h) (by assumption) (Or.inl ⟨by rfl, ?hy15⟩) (fun _ => rfl) ?rest15
             case hy15 => (intro w hSw; (try dsimp only at hSw); go_simp; try with_reducible rfl))
          | (refine ordS_take (i := 4) (oi := { dst := some 153, op := Op.fieldAddr 40 (Operand.tmp 152) 0, type := 0, pos := _, after := #[{ on := 3, ground := Ground.data }], guard := none }) (v := undef) rfl (by kernel_rfl) (by kernel_rfl) (by kernel_rfl) (by kernel_rfl) (fun _ _ _ h => h) (by assumption) (Or.inr ⟨by rfl, rfl⟩) (fun _ => rfl) ?_)
        try simp only [Act.put, List.setIfInBounds_toArray, List.set_cons_zero, List.set_cons_succ]
        first
          | (refine' ordS_take (i := 5) (oi := { dst := some 154, op := Op.load 37 (Operand.tmp 153), type := 37, pos := _, after := #[{ on := 4, ground := Ground.data }], guard := none }) (v := _) rfl (by kernel_rfl) (by kernel_rfl) (by kernel_rfl) (by kernel_rfl) (fun _ _ _ h => h) (by assumption) (Or.inl ⟨by rfl, ?hy16⟩) (fun _ => rfl) ?rest16
             case hy16 => (intro w hSw; (try dsimp only at hSw); go_simp; try with_reducible rfl))
          | (refine ordS_take (i := 5) (oi := { dst := some 154, op := Op.load 37 (Operand.tmp 153), type := 37, pos := _, after := #[{ on := 4, ground := Ground.data }], guard := none }) (v := undef) rfl (by kernel_rfl) (by kernel_rfl) (by kernel_rfl) (by kernel_rfl) (fun _ _ _ h => h) (by assumption) (Or.inr ⟨by rfl, rfl⟩) (fun _ => rfl) ?_)
        try simp only [Act.put, List.setIfInBounds_toArray, List.set_cons_zero, List.set_cons_succ]
        first
          | (refine' ordS_take (i := 6) (oi := { dst := some 155, op := Op.move (Operand.tmp 1), type := 24, pos := _, after := #[], guard := none }) (v := _) rfl (by kernel_rfl) (by kernel_rfl) (by kernel_rfl) (by kernel_rfl) (fun _ _ _ h => h) (by assumption) (Or.inl ⟨by rfl, ?hy17⟩) (fun _ => rfl) ?rest17
             case hy17 => (intro w hSw; (try dsimp only at hSw); go_simp; try with_reducible rfl))
          | (refine ordS_take (i := 6) (oi := { dst := some 155, op := Op.move (Operand.tmp 1), type := 24, pos := _, after := #[], guard := none }) (v := undef) rfl (by kernel_rfl) (by kernel_rfl) (by kernel_rfl) (by kernel_rfl) (fun _ _ _ h => h) (by assumption) (Or.inr ⟨by rfl, rfl⟩) (fun _ => rfl) ?_)
        try simp only [Act.put, List.setIfInBounds_toArray, List.set_cons_zero, List.set_cons_succ]
        first
          | (refine' ordS_take (i := 7) (oi := { dst := some 156, op := Op.move (Operand.tmp 15), type := 3, pos := _, after := #[], guard := none }) (v := _) rfl (by kernel_rfl) (by kernel_rfl) (by kernel_rfl) (by kernel_rfl) (fun _ _ _ h => h) (by assumption) (Or.inl ⟨by rfl, ?hy18⟩) (fun _ => rfl) ?rest18
             case hy18 => (intro w hSw; (try dsimp only at hSw); go_simp; try with_reducible rfl))
          | (refine ordS_take (i := 7) (oi := { dst := some 156, op := Op.move (Operand.tmp 15), type := 3, pos := _, after := #[], guard := none }) (v := undef) rfl (by kernel_rfl) (by kernel_rfl) (by kernel_rfl) (by kernel_rfl) (fun _ _ _ h => h) (by assumption) (Or.inr ⟨by rfl, rfl⟩) (fun _ => rfl) ?_)
        try simp only [Act.put, List.setIfInBounds_toArray, List.set_cons_zero, List.set_cons_succ]
        first
          | (refine' ordS_take (i := 8) (oi := { dst := some 157, op := Op.indexAddr 24 (Operand.tmp 155) (Operand.tmp 156), type := 0, pos := _, after := #[{ on := 6, ground := Ground.data }, { on := 7, ground := Ground.data }], guard := none }) (v := _) rfl (by kernel_rfl) (by kernel_rfl) (by kernel_rfl) (by kernel_rfl) (fun _ _ _ h => h) (by assumption) (Or.inl ⟨by rfl, ?hy19⟩) (fun _ => rfl) ?rest19
             case hy19 => (intro w hSw; (try dsimp only at hSw); go_simp; try with_reducible rfl))
          | (refine ordS_take (i := 8) (oi := { dst := some 157, op := Op.indexAddr 24 (Operand.tmp 155) (Operand.tmp 156), type := 0, pos := _, after := #[{ on := 6, ground := Ground.data }, { on := 7, ground := Ground.data }], guard := none }) (v := undef) rfl (by kernel_rfl) (by kernel_rfl) (by kernel_rfl) (by kernel_rfl) (fun _ _ _ h => h) (by assumption) (Or.inr ⟨by rfl, rfl⟩) (fun _ => rfl) ?_)
        try simp only [Act.put, List.setIfInBounds_toArray, List.set_cons_zero, List.set_cons_succ]
        first
          | (refine' ordS_take (i := 9) (oi := { dst := some 158, op := Op.fieldAddr 40 (Operand.tmp 157) 0, type := 0, pos := _, after := #[{ on := 8, ground := Ground.data }], guard := none }) (v := _) rfl (by kernel_rfl) (by kernel_rfl) (by kernel_rfl) (by kernel_rfl) (fun _ _ _ h => h) (by assumption) (Or.inl ⟨by rfl, ?hy20⟩) (fun _ => rfl) ?rest20
             case hy20 => (intro w hSw; (try dsimp only at hSw); go_simp; try with_reducible rfl))
          | (refine ordS_take (i := 9) (oi := { dst := some 158, op := Op.fieldAddr 40 (Operand.tmp 157) 0, type := 0, pos := _, after := #[{ on := 8, ground := Ground.data }], guard := none }) (v := undef) rfl (by kernel_rfl) (by kernel_rfl) (by kernel_rfl) (by kernel_rfl) (fun _ _ _ h => h) (by assumption) (Or.inr ⟨by rfl, rfl⟩) (fun _ => rfl) ?_)
        try simp only [Act.put, List.setIfInBounds_toArray, List.set_cons_zero, List.set_cons_succ]
        first
          | (refine' ordS_take (i := 10) (oi := { dst := some 159, op := Op.fieldAddr 37 (Operand.tmp 158) 0, type := 0, pos := _, after := #[{ on := 9, ground := Ground.data }], guard := none }) (v := _) rfl (by kernel_rfl) (by kernel_rfl) (by kernel_rfl) (by kernel_rfl) (fun _ _ _ h => h) (by assumption) (Or.inl ⟨by rfl, ?hy21⟩) (fun _ => rfl) ?rest21
             case hy21 => (intro w hSw; (try dsimp only at hSw); go_simp; try with_reducible rfl))
          | (refine ordS_take (i := 10) (oi := { dst := some 159, op := Op.fieldAddr 37 (Operand.tmp 158) 0, type := 0, pos := _, after := #[{ on := 9, ground := Ground.data }], guard := none }) (v := undef) rfl (by kernel_rfl) (by kernel_rfl) (by kernel_rfl) (by kernel_rfl) (fun _ _ _ h => h) (by assumption) (Or.inr ⟨by rfl, rfl⟩) (fun _ => rfl) ?_)
        try simp only [Act.put, List.setIfInBounds_toArray, List.set_cons_zero, List.set_cons_succ]
        first
          | (refine' ordS_take (i := 11) (oi := { dst := some 160, op := Op.load 23 (Operand.tmp 159), type := 23, pos := _, after := #[{ on := 10, ground := Ground.data }], guard := none }) (v := _) rfl (by kernel_rfl) (by kernel_rfl) (by kernel_rfl) (by kernel_rfl) (fun _ _ _ h => h) (by assumption) (Or.inl ⟨by rfl, ?hy22⟩) (fun _ => rfl) ?rest22
             case hy22 => (intro w hSw; (try dsimp only at hSw); go_simp; try with_reducible rfl))
          | (refine ordS_take (i := 11) (oi := { dst := some 160, op := Op.load 23 (Operand.tmp 159), type := 23, pos := _, after := #[{ on := 10, ground := Ground.data }], guard := none }) (v := undef) rfl (by kernel_rfl) (by kernel_rfl) (by kernel_rfl) (by kernel_rfl) (fun _ _ _ h => h) (by assumption) (Or.inr ⟨by rfl, rfl⟩) (fun _ => rfl) ?_)
        try simp only [Act.put, List.setIfInBounds_toArray, List.set_cons_zero, List.set_cons_succ]
        first
          | (refine' ordS_take (i := 12) (oi := { dst := some 161, op := Op.move (Operand.tmp 1), type := 24, pos := _, after := #[], guard := none }) (v := _) rfl (by kernel_rfl) (by kernel_rfl) (by kernel_rfl) (by kernel_rfl) (fun _ _ _ h => h) (by assumption) (Or.inl ⟨by rfl, ?hy23⟩) (fun _ => rfl) ?rest23
             case hy23 => (intro w hSw; (try dsimp only at hSw); go_simp; try with_reducible rfl))
          | (refine ordS_take (i := 12) (oi := { dst := some 161, op := Op.move (Operand.tmp 1), type := 24, pos := _, after := #[], guard := none }) (v := undef) rfl (by kernel_rfl) (by kernel_rfl) (by kernel_rfl) (by kernel_rfl) (fun _ _ _ h => h) (by assumption) (Or.inr ⟨by rfl, rfl⟩) (fun _ => rfl) ?_)
        try simp only [Act.put, List.setIfInBounds_toArray, List.set_cons_zero, List.set_cons_succ]
        first
          | (refine' ordS_take (i := 13) (oi := { dst := some 162, op := Op.move (Operand.tmp 15), type := 3, pos := _, after := #[], guard := none }) (v := _) rfl (by kernel_rfl) (by kernel_rfl) (by kernel_rfl) (by kernel_rfl) (fun _ _ _ h => h) (by assumption) (Or.inl ⟨by rfl, ?hy24⟩) (fun _ => rfl) ?rest24
             case hy24 => (intro w hSw; (try dsimp only at hSw); go_simp; try with_reducible rfl))
          | (refine ordS_take (i := 13) (oi := { dst := some 162, op := Op.move (Operand.tmp 15), type := 3, pos := _, after := #[], guard := none }) (v := undef) rfl (by kernel_rfl) (by kernel_rfl) (by kernel_rfl) (by kernel_rfl) (fun _ _ _ h => h) (by assumption) (Or.inr ⟨by rfl, rfl⟩) (fun _ => rfl) ?_)
        try simp only [Act.put, List.setIfInBounds_toArray, List.set_cons_zero, List.set_cons_succ]
        first
          | (refine' ordS_take (i := 14) (oi := { dst := some 163, op := Op.indexAddr 24 (Operand.tmp 161) (Operand.tmp 162), type := 0, pos := _, after := #[{ on := 12, ground := Ground.data }, { on := 13, ground := Ground.data }], guard := none }) (v := _) rfl (by kernel_rfl) (by kernel_rfl) (by kernel_rfl) (by kernel_rfl) (fun _ _ _ h => h) (by assumption) (Or.inl ⟨by rfl, ?hy25⟩) (fun _ => rfl) ?rest25
             case hy25 => (intro w hSw; (try dsimp only at hSw); go_simp; try with_reducible rfl))
          | (refine ordS_take (i := 14) (oi := { dst := some 163, op := Op.indexAddr 24 (Operand.tmp 161) (Operand.tmp 162), type := 0, pos := _, after := #[{ on := 12, ground := Ground.data }, { on := 13, ground := Ground.data }], guard := none }) (v := undef) rfl (by kernel_rfl) (by kernel_rfl) (by kernel_rfl) (by kernel_rfl) (fun _ _ _ h => h) (by assumption) (Or.inr ⟨by rfl, rfl⟩) (fun _ => rfl) ?_)
        try simp only [Act.put, List.setIfInBounds_toArray, List.set_cons_zero, List.set_cons_succ]
        first
          | (refine' ordS_take (i := 15) (oi := { dst := some 164, op := Op.fieldAddr 40 (Operand.tmp 163) 1, type := 0, pos := _, after := #[{ on := 14, ground := Ground.data }], guard := none }) (v := _) rfl (by kernel_rfl) (by kernel_rfl) (by kernel_rfl) (by kernel_rfl) (fun _ _ _ h => h) (by assumption) (Or.inl ⟨by rfl, ?hy26⟩) (fun _ => rfl) ?rest26
             case hy26 => (intro w hSw; (try dsimp only at hSw); go_simp; try with_reducible rfl))
          | (refine ordS_take (i := 15) (oi := { dst := some 164, op := Op.fieldAddr 40 (Operand.tmp 163) 1, type := 0, pos := _, after := #[{ on := 14, ground := Ground.data }], guard := none }) (v := undef) rfl (by kernel_rfl) (by kernel_rfl) (by kernel_rfl) (by kernel_rfl) (fun _ _ _ h => h) (by assumption) (Or.inr ⟨by rfl, rfl⟩) (fun _ => rfl) ?_)
        try simp only [Act.put, List.setIfInBounds_toArray, List.set_cons_zero, List.set_cons_succ]
        first
          | (refine' ordS_take (i := 16) (oi := { dst := some 165, op := Op.load 38 (Operand.tmp 164), type := 38, pos := _, after := #[{ on := 15, ground := Ground.data }], guard := none }) (v := _) rfl (by kernel_rfl) (by kernel_rfl) (by kernel_rfl) (by kernel_rfl) (fun _ _ _ h => h) (by assumption) (Or.inl ⟨by rfl, ?hy27⟩) (fun _ => rfl) ?rest27
             case hy27 => (intro w hSw; (try dsimp only at hSw); go_simp; try with_reducible rfl))
          | (refine ordS_take (i := 16) (oi := { dst := some 165, op := Op.load 38 (Operand.tmp 164), type := 38, pos := _, after := #[{ on := 15, ground := Ground.data }], guard := none }) (v := undef) rfl (by kernel_rfl) (by kernel_rfl) (by kernel_rfl) (by kernel_rfl) (fun _ _ _ h => h) (by assumption) (Or.inr ⟨by rfl, rfl⟩) (fun _ => rfl) ?_)
        try simp only [Act.put, List.setIfInBounds_toArray, List.set_cons_zero, List.set_cons_succ]
        refine ordS_one (i := 17) (o := { dst := some 166, op := Op.call { callee := Callee.value (Operand.func 13), args := #[Operand.tmp 160, Operand.tmp 165], argTypes := #[23, 38] }, type := 41, pos := _, after := #[{ on := 11, ground := Ground.data }, { on := 16, ground := Ground.data }], guard := none }) (by kernel_rfl) rfl (by rfl) (fun K hK => ?_)
        go_simp
        refine ⟨trivial, (callsIn_wide.2 (fset_any A B ca cc zs _ (qc.below hD) (by omega))).mono ?_⟩
        rintro e w2 ⟨p, rfl, hmp, hb2⟩
        have hdz : wr.drew.heap.size = wr.heap.size := rfl
        have hB2 := bl_tr hD hb2
        have hfl := Fc.lt
        have Fc2 := Fc.below hB2
        have Fa2 := Fa.below hB2
        have Fb2 := Fb.below hB2
        have qh2 := qh.below hB2
        have hA2 := bl_tr hAr hB2
        have q02 := cell_later hB2 q0
        have q12 := cell_later hB2 q1
        have q22 := cell_later hB2 q2
        have q32 := cell_later hB2 q3
        replace f0 := cell_later hB2 f0
        replace f1 := cell_later hB2 f1
        refine hK _ _ ⟨q02, q12, q22, q32⟩ ?_
        clear hK K
        try simp only [Act.put, List.setIfInBounds_toArray, List.set_cons_zero, List.set_cons_succ]
        refine ordS_one (i := 18) (o := { dst := some 167, op := Op.call { callee := Callee.value (Operand.func 14), args := #[Operand.tmp 149, Operand.tmp 154, Operand.tmp 166], argTypes := #[29, 37, 41] }, type := 43, pos := _, after := #[{ on := 0, ground := Ground.data }, { on := 5, ground := Ground.data }, { on := 17, ground := Ground.data }, { on := 17, ground := Ground.chain }], guard := none }) (by kernel_rfl) rfl (by rfl) (fun K hK => ?_)
        go_simp
        refine ⟨trivial, (callsIn_wide.2 (merge_any _ gc hc pc X Y t.2 t.1 A B fa fc fs _ p _ w2 qh2 HAH.out Fc2 HLEN.out hmp (by omega) hv2 hv1)).mono ?_⟩
        rintro e w3 ⟨a3, c3, rfl, _, _, hf3, hk3⟩
        have z2 := hA2.size
        have hA3 := KeptT.below hA2 (Nat.le_refl _) hk3 (by omega) (by omega)
        refine hK _ _ ⟨hk3.cell q02 (by omega) (by omega), hk3.cell q12 (by omega) (by omega), hk3.cell q22 (by omega) (by omega), hk3.cell q32 (by omega) (by omega)⟩ ?_
        clear hK K
        try simp only [Act.put, List.setIfInBounds_toArray, List.set_cons_zero, List.set_cons_succ]
        refine ordS_done (by kernel_rfl) ?_
        have HI3 := Lib.hid (show CloneI w ga ha pa gb hb' pb gc hc pc X Y s ls (k + 1) w3 from ⟨by rw [HST.out]; exact hf3, Fa2.keptT hk3 (by omega) (by omega) (by omega) (by omega), Fb2.keptT hk3 (by omega) (by omega) (by omega) (by omega), hA3, hk3.cell f0 (by omega) (by omega), hk3.cell f1 (by omega) (by omega)⟩)
        clear hf3 hA3 hk3 hA2 Fa2 Fb2 Fc2 Fa Fb Fc qh2 hmp hb2 hB2 hAr q0 q1 q2 q3 q02 q12 q22 q32 qh qc HST hH hD f0 f1
        go_wp2
        go_roundw
        case rel => exact ⟨k + 1, by omega, by omega, by go_num, HI3.out⟩
        case measure => simp [intOf]; omega
      · have hge : (ls.length : Int) ≤ (k : Int) := by omega
        rw [List.take_of_length_le (by omega)] at Fc
        have zr := hAr.size
        have lFa := Fa.lt
        have lFb := Fb.lt
        have lFc := Fc.lt
        go_wp2_with fail
        refine (HCW.out _ hAr).mono ?_
        rintro e w5 ⟨gw, hw, pw, rfl, Fw, hb⟩
        have lgw := Fw.1
        have lFw := Fw.lt
        replace Fa := Fa.below hb
        replace Fb := Fb.below hb
        replace Fc := Fc.below hb
        replace Fw := fog_same Fw zr
        have hA5 := bl_tr hAr hb
        have hlen := looksL_len X Y ls H2.out
        obtain ⟨t, ht⟩ : ∃ s, looksL X Y ls = s := ⟨_, rfl⟩
        rw [ht] at Fc Fw hlen
        have hab := area_bd H2.out
        have htl : t.1.length ≤ 1048576 := by omega
        have HLT := Lib.hid hlen
        have b2 : (t.2 != t.2) = false := by simp
        clear hb hAr ht f0 f1 hlen
        go_wp2_with fail
        refine (fsame_eq _ _ _ _ _ _ _ _ _ _ _ _ _ _ Fc Fw htl).mono ?_
        rintro e w6 ⟨rfl, hb⟩
        replace Fa := Fa.below hb
        replace Fb := Fb.below hb
        replace Fc := Fc.below hb
        replace Fw := Fw.below hb
        have hA6 := bl_tr hA5 hb
        clear hb hA5
        go_wp2_with fail
        refine (fsame_eq _ _ _ _ _ _ _ _ _ _ _ _ _ _ Fa Fb HMS.out).mono ?_
        rintro e w7 ⟨rfl, hb⟩
        replace Fa := Fa.below hb
        replace Fb := Fb.below hb
        replace Fc := Fc.below hb
        replace Fw := Fw.below hb
        have hA7 := bl_tr hA6 hb
        clear hb hA6
        go_wp2_with fail
        refine (version_any _ _ _ _ _ _ _ _ _ Fa).mono ?_
        rintro e w7a ⟨rfl, rfl⟩
        go_wp2_with fail
        refine (version_any _ _ _ _ _ _ _ _ _ Fb).mono ?_
        rintro e w7b ⟨rfl, rfl⟩
        go_wp2_with fail
        refine (version_any _ _ _ _ _ _ _ _ _ Fc).mono ?_
        rintro e w7c ⟨rfl, rfl⟩
        go_wp2_with fail
        refine (version_any _ _ _ _ _ _ _ _ _ Fw).mono ?_
        rintro e w7d ⟨rfl, rfl⟩
        clear Fa Fb
        go_wp2_with fail
        refine (expl_any _ _ _ _ _ _ _ _ _ Fc H2.out HLT.out).mono ?_
        rintro e w8 ⟨bm, hm, rfl, hmk, hbm, hhm, hne, hb⟩
        have hgd := Good.explK (good_zero0 H2.out) HLT.out t.1.length (Nat.le_refl _)
        obtain ⟨bs, hbs⟩ : ∃ bs, explK t.1 (List.replicate ((X * Y + 7) / 8).toNat 0) t.1.length = bs := ⟨_, rfl⟩
        rw [hbs] at hmk hgd
        have HGD := Lib.hid hgd
        have z7 := hA7.size
        have z7b : gc < w7d.heap.size ∧ hc < w7d.heap.size ∧ gw < w7d.heap.size ∧ hw < w7d.heap.size := ⟨Fc.lt.1, Fc.lt.2.2, Fw.lt.1, Fw.lt.2.2⟩
        replace Fc := Fc.below hb
        replace Fw := Fw.below hb
        have hA8 := bl_tr hA7 hb
        clear hb hA7 hgd hbs
        go_wp2_with fail
        refine (view_any _ _ _ _ _ _ _ _ _ Fc htl).mono ?_
        rintro e w9' ⟨hv, rfl, hvr, hvh, hb⟩
        have z8 := hA8.size
        have lmk := hmk.lt
        replace hmk := hmk.below hb
        replace Fc := Fc.below hb
        replace Fw := Fw.below hb
        have hA9 := bl_tr hA8 hb
        clear hb hA8
        obtain ⟨N, hN⟩ : ∃ N, t.1.length = N := ⟨_, rfl⟩
        have hNl : N ≤ 1048576 := by omega
        have hcs : (cellsH (viewL t.1)).toArray.size = N := by simp [cellsH, viewL, hN]
        rw [hN]
        generalize (cellsH (viewL t.1)).toArray = cur0 at hvr hcs
        have zhv : hv < w9'.heap.size := (Array.getElem?_eq_some_iff.1 hvr).1
        clear hN
        have hV0 : ViewI w9' hv N 0 (w9'.alloc (.cells #[.int .i64 X, .int .i64 Y, .slice (some ⟨hv, 0, none⟩) N N] 37)) := ⟨⟨cur0, heap_al hvr _, hcs⟩, grown_al _ _ _, by simp [go_sem]⟩
        have HV0 := Lib.hid hV0
        have HF := Lib.hid Fc
        have HG := Lib.hid Fw
        have HK := Lib.hid hmk
        have HA := Lib.hid hA9
        clear hV0 hvr hcs Fc Fw hmk hA9
        go_wp2
        go_loopw [19] (fun i wr => ∃ k : Nat, k ≤ N ∧ i = .int .i64 k ∧ ViewI w9' hv N k wr) (fun i _ => N - (intOf i).toNat)
        case atStart => exact ⟨0, Nat.zero_le _, rfl, HV0.out⟩
        case round =>
          obtain ⟨k, hk, rfl, ⟨cur, hcur, hsz⟩, hgr, hc2⟩ := hrel
          clear HV0
          by_cases hlt : k < N
          · have hlt2 : (k : Int) < (N : Int) := by omega
            have hk0 : (0 : Int) ≤ (k : Int) := by omega
            have q : wr.cell? ⟨hv, k, none⟩ = some (cur[k]'(by omega)) := by simp [World.cell?, hcur, show k < cur.size by omega]
            have fz : wr.frozen? ⟨hv, k, none⟩ = false := by simp [World.frozen?, hcur]
            have hn2' : ViewI w9' hv N (k + 1) (wr.setCell ⟨hv, k, none⟩ (.int .u16 99)) :=
              ⟨⟨_, heap_set_same wr hv k cur 53 (.int .u16 99) hcur, by simpa using hsz⟩, hgr.trans (grown_set wr hv k _), (grown_set wr hv k (.int .u16 99)).cell hc2 (by simp; omega)⟩
            have HN2 := Lib.hid hn2'
            clear hn2' hgr hcur
            go_wp2
            go_roundw
            case rel => exact ⟨k + 1, by omega, by go_num, HN2.out⟩
            case measure => simp [intOf]; omega
          · have hge : (N : Int) ≤ (k : Int) := by omega
            have hFc := HF.out.kept hgr (by simp; omega) (by simp; omega)
            have hFw := HG.out.kept hgr (by simp; omega) (by simp; omega)
            have hmk := HK.out.kept hgr (by simp; omega) (by simp; omega)
            have hA10 := HA.out.grown hgr HA.out.size (fun j e => by cases e; omega)
            have zg := hgr.size
            clear HF HG HK HA hcur hgr
            go_wp2_with fail
            refine (has_all bm hm X Y 0 0 bs _ hmk HGD.out).mono ?_
            rintro e w11 ⟨rfl, hb⟩
            obtain ⟨bv, hbv⟩ : ∃ bv, inM X Y bs (0, 0) = bv := ⟨_, rfl⟩
            rw [hbv]
            replace hmk := hmk.below hb
            replace hFc := hFc.below hb
            replace hFw := hFw.below hb
            have hA11 := bl_tr hA10 hb
            have z11 := hb.size
            have lmk2 := hmk.lt
            have hi00 : inB X Y 0 0 = true := by
              obtain ⟨h1, h2, h3, h4⟩ := mayB_iff.1 H2.out
              rw [inB_iff]; omega
            clear hb hA10 hbv
            go_wp2_with fail
            refine (set_yes bm hm X Y 0 0 bs _ _ hmk HGD.out hne hi00).mono ?_
            rintro e w12 ⟨rfl, _, hg12⟩
            replace hFc := hFc.kept hg12 (by simp; omega) (by simp; omega)
            replace hFw := hFw.kept hg12 (by simp; omega) (by simp; omega)
            have hA12 := hA11.grown hg12 hA11.size (fun j e => by cases e; omega)
            clear hg12 hmk hA11
            go_wp2_with fail
            refine (fsame_eq _ _ _ _ _ _ _ _ _ _ _ _ _ _ hFc hFw htl).mono ?_
            rintro e w13 ⟨rfl, hb⟩
            have hA13 := bl_tr hA12 hb
            clear hb hA12 hFc hFw
            go_wp2_with fail
            refine (fawake _).mono ?_
            rintro e w14 ⟨rfl, hb⟩
            have HA14 := Lib.hid (bl_tr hA13 hb)
            clear hb hA13
            go_wp2
            go_ret
            exact ⟨rfl, HA14.out⟩
end Go.Proofs.Ytmcgkoleaomjlaa
