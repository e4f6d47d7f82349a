/- Texts of the walk, one behind the other: Pte. No condition. -/
import Derived.Test.YtadeoflkppiflaaGreatDoorOat
import Derived.BigQuiet
import Derived.Deep.Cut
import Derived.Deep.CutBlock
import Derived.Deep.CutRange
import Derived.Deep.DeepCutAuto
import Derived.Deep.QuietTactic
import Derived.Deep.RegionHeld3
import Derived.Deep.RegionWith
import Derived.StillTailTactics
section
namespace Go.Proofs.YtadeoflkppiflaaGreatDoor
open Go.RowKit
set_option linter.unusedVariables false
set_option maxHeartbeats 1000000
set_option maxRecDepth 100000
attribute [local go_sem ↓] append_appS copy_copS clear_clrS make_mkS cell_row frozen_row loadLine storeLine loadSlot storeSlot heap_drew heap_drewN heap_alloc heap_past heap_setCell heap_putRow vs_get slc_st slc_li slc_us slice_slS loadMsg storeMsg loadHas storeHas msc_kd msc_li msc_di msc_ke
attribute [local go_sem] rowCell_some rowFrozen_some rowHas_some rowIn_some rowPart_full rowPart_lit rowPut_full rowPut_lit rowSet_some size_putRow vs_size vs_one wideLine wideSlot run_loadS run_storeS run_appS run_copS run_clrS run_mkS loadW_at storeW_at fit_all fit_le one_int one_bool one_pointer one_slice allOne_list putRow_new ne_size1 ne_size2 ne_size3 ne_size4 zero8_length lines_nil line_eq lit8 slc_size slc_one slc_part slc_in fold_slt fold_slc slc_set_us wideMsg wideHas run_slS msc_size msc_one msc_part msc_in fold_msc msc_putDi msc_putKe msc_putX msc_has ms4_lit
attribute [local simp ↓] heap_drew heap_drewN heap_alloc heap_past heap_setCell heap_putRow
attribute [local simp] rowCell_some rowFrozen_some rowHas_some rowIn_some rowPart_full rowPart_lit rowPut_full rowPut_lit rowSet_some size_putRow vs_size fit_all putRow_new ne_size1 ne_size2 ne_size3 ne_size4 zero8_length slc_size msc_size msc_putDi msc_putKe msc_putX msc_has fit_le
attribute [local go_sem ↓] ec_he ec_di ec_ow ec_sh ec_bu ec_by ec_wa sc_to
attribute [local go_sem] mi_and mi_or mi_not mi_beq0 mi_bne0 ec_size ec_one ec_part ec_in ec_has ec_setDi ec_setOw ec_setSh ec_setBu ec_setBy ec_setWa ec_setSh0 ec_setWa0 ec_putM sc_size sc_one sc_part sc_in
attribute [local simp] ec_size sc_size ec_setDi ec_setOw ec_setSh ec_setBu ec_setBy ec_setWa ec_setSh0 ec_setWa0 ec_putM
attribute [local go_sem ↓] loadEn storeEn loadSd storeSd en_z0
attribute [local go_sem] wideEn wideSd fold_sc size11 putRow_newB putRow_newC ms5_lit
attribute [local simp] en_z0 putRow_newB putRow_newC fit_le ec_has



attribute [local go_sem ↓] mlitZ zenc_po zenc_en zenc_q
attribute [local simp] mlitZ

attribute [local go_sem ↓] mst_z0 storeMst loadMst mstc_0 mstc_1 mstc_2 mstc_3 mstc_4 loadCg cg_li cg_vo cg_qu cg_co0
attribute [local simp] mst_z0 mstc_sizeN cg_sizeN
attribute [local go_sem] fold_mst wideMst mstc_sizeN mstc_one mstc_part wideCg cg_sizeN cg_one cg_part
theorem row_cell9 {cs : Array Value} {t : TypeId} {f : Nat × Nat} {o n : Nat} {v : Array Value} (hp : rowPart (some (.cells cs t f)) o n = v) (j : Nat) (hj : j < n) : cs[o + j]? = v[j]? := by
  rw [← hp, rowPart_some]
  simp [List.getElem?_take_of_lt hj]
attribute [local go_sem ↓] enf_di enf_he mst_build
theorem mMesiHands_bad (c0 c1 c2 c3 c4 c5 c6 : Int) (A : Option Addr) (N cN : Nat) (xs : List Value) (W : World) (hT : Tabs W) (hA : Sl W 5 A N xs) (hN : N ≤ maxLen) (hk : ∀ i, i < N → AreKd W kMst ((xs.drop (i * 5)).take 5)) (hg : goodB c0 c1 c2 c3 c4 c5 c6 = false) : Calls Tryz.prog 9 #[.agg #[.int .i64 c0, .int .i64 c1, .int .i64 c2, .int .i64 c3, .int .i64 c4, .int .i64 c5, .int .i64 c6], .slice A N cN] W fun e w' => e = .returned (.bool true) ∧ Chg [] W w' := by
  have HT := Lib.hid hT
  have HG := Lib.hid (fun w => mgood_false c0 c1 c2 c3 c4 c5 c6 w hg)
  clear hT hA hk hg hN
  go_enter Tryz.func9, Tryz.ntmps9
  try dsimp only [List.append]
  go_wp2_with fail
  refine (HG.out _).mono ?_
  rintro e w1 ⟨rfl, cw1⟩
  have C1 := Lib.hid (((Chg.refl [] W).alloc (.cells #[.int .i64 c0, .int .i64 c1, .int .i64 c2, .int .i64 c3, .int .i64 c4, .int .i64 c5, .int .i64 c6] 23)).trans cw1)
  clear cw1
  go_wp2_with fail
  refine (mwakes _ (HT.out.keep0 C1.out)).mono ?_
  rintro e w2 ⟨rfl, cw2⟩
  go_wp2_with fail
  go_ret
  exact ⟨rfl, C1.out.trans cw2⟩
theorem mMesiHands_big (c : Cg) (hc : c.Ok) (A : Option Addr) (N cN : Nat) (W : World) (hT : Tabs W) (hN : N ≤ maxLen) (h12 : 12 < c.li ∨ 12 < N) : Calls Tryz.prog 9 #[.agg c.cells, .slice A N cN] W fun e w' => e = .returned (.bool true) ∧ Chg [] W w' := by
  have HT := Lib.hid hT
  have HG := Lib.hid (fun w => mgood_true c hc w)
  have C0 := Lib.hid ((Chg.refl [] W).alloc (.cells c.cells 23))
  have r0 : (W.alloc (.cells c.cells 23)).heap[W.heap.size]? = some (.cells c.cells 23 (0, 0)) := new_blk _ _
  unfold maxLen at hN
  clear hT hc
  by_cases hl : 12 < c.li
  · have t1 : decide ((12 : Int) < (c.li : Int)) = true := decide_eq_true (by omega)
    have t2 : decide (12 < c.li) = true := decide_eq_true hl
    clear h12 hl
    go_enter Tryz.func9, Tryz.ntmps9
    try dsimp only [List.append]
    go_wp2_with fail
    refine (HG.out _).mono ?_
    rintro e w1 ⟨rfl, cw1⟩
    have C1 := Lib.hid (C0.out.trans cw1)
    have r1 := cw1.keep r0 List.not_mem_nil
    have o1 := old r1
    clear cw1 r0
    go_wp2_with fail
    refine (mwakes _ (HT.out.keep0 C1.out)).mono ?_
    rintro e w2 ⟨rfl, cw2⟩
    go_wp2_with fail
    go_ret
    exact ⟨rfl, C1.out.trans cw2⟩
  · have t1 : decide ((12 : Int) < (c.li : Int)) = false := decide_eq_false (by omega)
    have t2 : decide (12 < c.li) = false := decide_eq_false hl
    have hn : 12 < N := by omega
    have t3 : decide ((12 : Int) < (N : Int)) = true := decide_eq_true (by omega)
    have t4 : decide (12 < N) = true := decide_eq_true hn
    clear h12 hl hn
    go_enter Tryz.func9, Tryz.ntmps9
    try dsimp only [List.append]
    go_wp2_with fail
    refine (HG.out _).mono ?_
    rintro e w1 ⟨rfl, cw1⟩
    have C1 := Lib.hid (C0.out.trans cw1)
    have r1 := cw1.keep r0 List.not_mem_nil
    have o1 := old r1
    clear cw1 r0
    go_wp2_with fail
    refine (mwakes _ (HT.out.keep0 C1.out)).mono ?_
    rintro e w2 ⟨rfl, cw2⟩
    go_wp2_with fail
    go_ret
    exact ⟨rfl, C1.out.trans cw2⟩

set_option maxHeartbeats 8000000 in
theorem mMesiHands_good (c : Cg) (hc : c.Ok) (A : Option Addr) (N cN : Nat) (xs : List Value) (W : World) (hT : Tabs W) (hA : Sl W 5 A N xs) (hk : ∀ i, i < N → AreKd W kMst ((xs.drop (i * 5)).take 5)) (h12 : c.li ≤ 12) (hN : N ≤ 12) : Calls Tryz.prog 9 #[.agg c.cells, .slice A N cN] W fun e w' => e = .returned (.bool true) ∧ Chg [] W w' := by
  have HT := Lib.hid hT
  have HCO := Lib.hid hc
  have H12 := Lib.hid h12
  have HA := Lib.hid hA
  have HKD := Lib.hid hk
  have HG := Lib.hid (fun w => mgood_true c hc w)
  have t1 : decide ((12 : Int) < (c.li : Int)) = false := decide_eq_false (by omega)
  have t2 : decide (12 < c.li) = false := decide_eq_false (by omega)
  have t3 : decide ((12 : Int) < (N : Int)) = false := decide_eq_false (by omega)
  have t4 : decide (12 < N) = false := decide_eq_false (by omega)
  have r0 : (W.alloc (.cells c.cells 23)).heap[W.heap.size]? = some (.cells c.cells 23 (0, 0)) := new_blk _ _
  have C0 := Lib.hid ((Chg.refl [] W).alloc (.cells c.cells 23))
  have g12 : (c.li : Int) ≤ 12 := by omega
  have gco : (c.co : Int) ≤ 8 := by have := hc.co8; omega
  have gco1 : (1 : Int) ≤ (c.co : Int) := by have := hc.co1; omega
  clear hT hc h12 hA hk
  go_enter Tryz.func9, Tryz.ntmps9
  try dsimp only [List.append]
  go_wp2_with fail
  refine (HG.out _).mono ?_
  rintro e w1 ⟨rfl, cw1⟩
  have C1 := Lib.hid (C0.out.trans cw1)
  have r1 := cw1.keep r0 List.not_mem_nil
  clear cw1 r0 C0
  generalize hbc : W.heap.size = bc at r1 ⊢
  have HBC := Lib.hid hbc
  clear hbc
  have o1 := old r1
  go_wp2_with fail
  refine (mnew_none W _ c HCO.out C1.out none 0).mono ?_
  rintro e w2 ⟨sy, F0, rfl, hm, hcc, hkk⟩
  have r2 := hcc.keep r1 List.not_mem_nil
  have M0 := Lib.hid (show MS W w2 c sy F0 (fresh9 c) from hm)
  have I0 := Lib.hid (Inv.fresh c HCO.out (List.replicate (c.li * 8) 0) (by simp))
  have HF0 := Lib.hid (show ∀ b ∈ F0, bc < b from fun b hb => Nat.lt_of_lt_of_le o1.lt (hkk b hb))
  clear hm hcc hkk r1 o1 C1
  have o2 := old r2
  go_wp2_with fail
  go_loopw [7] (fun i' wr => ∃ (q : Nat) (F : List Nat) (S : Mst) (cur : Nat → List Int), q ≤ N ∧ i' = .int .i64 q ∧ MS W wr c sy F S ∧ Inv c (q * 5000) S cur ∧ Quiet c S ∧ S.es = [] ∧ (∀ b ∈ F, bc < b) ∧ wr.heap[bc]? = some (.cells c.cells 23 (0, 0))) (fun i' _ => N - (intOf i').toNat)
  case atStart => exact ⟨0, F0, _, _, by omega, rfl, M0.out, I0.out.mono (by omega), Quiet.fresh c, rfl, HF0.out, r2⟩
  case round =>
    obtain ⟨q, F, S, cur, hq, rfl, hm, hI, hQ, hes, hF, rcf⟩ := hrel
    have HM := Lib.hid hm
    have HI0 := Lib.hid hI
    have HQ := Lib.hid hQ
    have HES := Lib.hid hes
    have HF := Lib.hid hF
    have HQN := Lib.hid hq
    have gq0 : (0 : Int) ≤ (q : Int) := by omega
    clear hm hI hQ hes hF hq r2 o2 M0 I0 HF0
    by_cases hlt : q < N
    · have tq : decide (q < N) = true := decide_eq_true hlt
      have gq1 : (q : Int) < (N : Int) := by omega
      have HQL := Lib.hid hlt
      obtain ⟨ba, oa, rfl⟩ := HA.out.addr (by omega)
      obtain ⟨x, cs, t, f, hb, hi, hp, hv⟩ := mstep_row HA.out hlt (HKD.out q hlt)
      have hbr := (Mem.chg HM.out).keep hb (by simp)
      have z1 : cs[oa + q * 5 + 1]? = some (.int .i64 x.co) := row_cell9 hp 1 (by omega)
      have z2 : cs[oa + q * 5 + 2]? = some (.int .i64 x.li) := row_cell9 hp 2 (by omega)
      have z3 : cs[oa + q * 5 + 3]? = some (.int .i64 x.wd) := row_cell9 hp 3 (by omega)
      have z4 : cs[oa + q * 5 + 4]? = some (.int .u64 x.v) := row_cell9 hp 4 (by omega)
      have Z1 := Lib.hid z1
      have Z2 := Lib.hid z2
      have Z3 := Lib.hid z3
      have Z4 := Lib.hid z4
      have HBR := Lib.hid hbr
      have obr := old hbr
      have ocf := old rcf
      obtain ⟨k, hk⟩ : ∃ k, pmodn x.co c.co = k := ⟨_, rfl⟩
      obtain ⟨i, hi'⟩ : ∃ i, pmodn x.li c.li = i := ⟨_, rfl⟩
      obtain ⟨d, hd⟩ : ∃ d, pmodn x.wd 8 = d := ⟨_, rfl⟩
      have HK := Lib.hid (show k < c.co by rw [← hk]; exact pmodn_lt _ _ HCO.out.co1)
      have HI := Lib.hid (show i < c.li by rw [← hi']; exact pmodn_lt _ _ (by have := HCO.out.li2; omega))
      have HD := Lib.hid (show d < 8 by rw [← hd]; exact pmodn_lt _ _ (by omega))
      have Q1 := Lib.hid (show ∀ w, Calls Tryz.prog 26 #[.int .i64 x.co, .int .i64 c.co] w fun e w' => e = .returned (.int .i64 k) ∧ w = w' from fun w => by rw [← hk]; exact pmod_ok x.co c.co HCO.out.co1 (by have := HCO.out.co8; omega) _)
      have Q2 := Lib.hid (show ∀ w, Calls Tryz.prog 26 #[.int .i64 x.li, .int .i64 c.li] w fun e w' => e = .returned (.int .i64 i) ∧ w = w' from fun w => by rw [← hi']; exact pmod_ok x.li c.li (by have := HCO.out.li2; omega) (by have := HCO.out.li64; omega) _)
      have Q3 := Lib.hid (show ∀ w, Calls Tryz.prog 26 #[.int .i64 x.wd, .int .i64 8] w fun e w' => e = .returned (.int .i64 d) ∧ w = w' from fun w => by rw [← hd]; exact pmod_ok x.wd 8 (by omega) (by omega) _)
      clear hk hi' hd hb
      go_wp2_with fail
      clear hp hi
      have hA := fun o => (Chg.alloc (Chg.drew (Chg.refl [] wr)) o).keep rcf List.not_mem_nil
      have hA' := fun o => (Chg.alloc (Chg.drew (Chg.refl [] wr)) o).keep hbr List.not_mem_nil
      have hB := (Chg.drew (Chg.refl [] wr)).keep rcf List.not_mem_nil
      have hB' := (Chg.drew (Chg.refl [] wr)).keep hbr List.not_mem_nil
      have HPC := Lib.hid ((((Chg.refl [wr.heap.size] wr).alloc (.cells (mstc mstZ) 42)).drew).putRow wr.heap.size 0 (mstc ⟨0, k, i, d, x.v⟩) (.inl (by simp)))
      have hP := HPC.out.keep rcf (by have := ocf.lt; simp; omega)
      have hP' := HPC.out.keep hbr (by have := obr.lt; simp; omega)
      go_cut [8] from 46 to 73 (fun v wx => v = .pointer (some ⟨wr.heap.size, 0, none⟩) ∧ wx = putRow (wr.alloc (.cells (mstc mstZ) 42)).drew wr.heap.size 0 (mstc ⟨0, k, i, d, x.v⟩))
      · trace "R"
        refine wp_region_noPanic ?_
        refine wp_region_held_drew (S := fun w' => w'.heap[bc]? = some (.cells c.cells 23 (0, 0)) ∧ w'.heap[ba]? = some (.cells cs t f)) (by kernel_rfl) ?_ (fun hHeld => ?_)
        · exact ⟨hB, hB'⟩
        refine wpAnyH_take (i := 0) (oi := ({ dst := some 46, op := Op.move (Operand.tmp 1), type := 25, pos := "law.go:379", after := #[], guard := none } : Oper)) (v := ?_) rfl (by kernel_rfl) (by kernel_rfl) (by kernel_rfl) (fun _ _ _ h => h) (Or.inl ⟨by rfl, ?_⟩) (by assumption) ?_
        rotate_left
        · (intro w hSw; (try dsimp only at hSw); go_simp; try with_reducible rfl)
        try simp only [Act.put, List.setIfInBounds_toArray, List.set_cons_zero, List.set_cons_succ]
        refine wpAnyH_take (i := 1) (oi := ({ dst := some 47, op := Op.move (Operand.tmp 7), type := 3, pos := "law.go:379", after := #[], guard := none } : Oper)) (v := ?_) rfl (by kernel_rfl) (by kernel_rfl) (by kernel_rfl) (fun _ _ _ h => h) (Or.inl ⟨by rfl, ?_⟩) (by assumption) ?_
        rotate_left
        · (intro w hSw; (try dsimp only at hSw); go_simp; try with_reducible rfl)
        try simp only [Act.put, List.setIfInBounds_toArray, List.set_cons_zero, List.set_cons_succ]
        refine wpAnyH_take (i := 2) (oi := ({ dst := some 48, op := Op.indexAddr 25 (Operand.tmp 46) (Operand.tmp 47), type := 0, pos := "law.go:379", after := #[{ on := 0, ground := Ground.data }, { on := 1, ground := Ground.data }], guard := none } : Oper)) (v := ?_) rfl (by kernel_rfl) (by kernel_rfl) (by kernel_rfl) (fun _ _ _ h => h) (Or.inl ⟨by rfl, ?_⟩) (by assumption) ?_
        rotate_left
        · (intro w hSw; (try dsimp only at hSw); go_simp; try with_reducible rfl)
        try simp only [Act.put, List.setIfInBounds_toArray, List.set_cons_zero, List.set_cons_succ]
        refine wpAnyH_take (i := 3) (oi := ({ dst := some 49, op := Op.fieldAddr 42 (Operand.tmp 48) 1, type := 0, pos := "law.go:379", after := #[{ on := 2, ground := Ground.data }], guard := none } : Oper)) (v := ?_) rfl (by kernel_rfl) (by kernel_rfl) (by kernel_rfl) (fun _ _ _ h => h) (Or.inl ⟨by rfl, ?_⟩) (by assumption) ?_
        rotate_left
        · (intro w hSw; (try dsimp only at hSw); go_simp; try with_reducible rfl)
        try simp only [Act.put, List.setIfInBounds_toArray, List.set_cons_zero, List.set_cons_succ]
        refine wpAnyH_take (i := 4) (oi := ({ dst := some 50, op := Op.load 3 (Operand.tmp 49), type := 3, pos := "law.go:379", after := #[{ on := 3, ground := Ground.data }], guard := none } : Oper)) (v := ?_) rfl (by kernel_rfl) (by kernel_rfl) (by kernel_rfl) (fun _ _ _ h => h) (Or.inl ⟨by rfl, ?_⟩) (by assumption) ?_
        rotate_left
        · (intro w hSw; (try dsimp only at hSw); go_simp; try with_reducible rfl)
        try simp only [Act.put, List.setIfInBounds_toArray, List.set_cons_zero, List.set_cons_succ]
        refine wpAnyH_take (i := 5) (oi := ({ dst := some 51, op := Op.fieldAddr 23 (Operand.tmp 2) 0, type := 0, pos := "law.go:379", after := #[], guard := none } : Oper)) (v := ?_) rfl (by kernel_rfl) (by kernel_rfl) (by kernel_rfl) (fun _ _ _ h => h) (Or.inl ⟨by rfl, ?_⟩) (by assumption) ?_
        rotate_left
        · (intro w hSw; (try dsimp only at hSw); go_simp; try with_reducible rfl)
        try simp only [Act.put, List.setIfInBounds_toArray, List.set_cons_zero, List.set_cons_succ]
        refine wpAnyH_take (i := 6) (oi := ({ dst := some 52, op := Op.load 3 (Operand.tmp 51), type := 3, pos := "law.go:379", after := #[{ on := 5, ground := Ground.data }], guard := none } : Oper)) (v := ?_) rfl (by kernel_rfl) (by kernel_rfl) (by kernel_rfl) (fun _ _ _ h => h) (Or.inl ⟨by rfl, ?_⟩) (by assumption) ?_
        rotate_left
        · (intro w hSw; (try dsimp only at hSw); go_simp; try with_reducible rfl)
        try simp only [Act.put, List.setIfInBounds_toArray, List.set_cons_zero, List.set_cons_succ]
        refine wpAnyH_take (i := 8) (oi := ({ dst := some 54, op := Op.move (Operand.tmp 1), type := 25, pos := "law.go:379", after := #[], guard := none } : Oper)) (v := ?_) rfl (by kernel_rfl) (by kernel_rfl) (by kernel_rfl) (fun _ _ _ h => h) (Or.inl ⟨by rfl, ?_⟩) (by assumption) ?_
        rotate_left
        · (intro w hSw; (try dsimp only at hSw); go_simp; try with_reducible rfl)
        try simp only [Act.put, List.setIfInBounds_toArray, List.set_cons_zero, List.set_cons_succ]
        refine wpAnyH_take (i := 9) (oi := ({ dst := some 55, op := Op.move (Operand.tmp 7), type := 3, pos := "law.go:379", after := #[], guard := none } : Oper)) (v := ?_) rfl (by kernel_rfl) (by kernel_rfl) (by kernel_rfl) (fun _ _ _ h => h) (Or.inl ⟨by rfl, ?_⟩) (by assumption) ?_
        rotate_left
        · (intro w hSw; (try dsimp only at hSw); go_simp; try with_reducible rfl)
        try simp only [Act.put, List.setIfInBounds_toArray, List.set_cons_zero, List.set_cons_succ]
        refine wpAnyH_take (i := 10) (oi := ({ dst := some 56, op := Op.indexAddr 25 (Operand.tmp 54) (Operand.tmp 55), type := 0, pos := "law.go:379", after := #[{ on := 8, ground := Ground.data }, { on := 9, ground := Ground.data }], guard := none } : Oper)) (v := ?_) rfl (by kernel_rfl) (by kernel_rfl) (by kernel_rfl) (fun _ _ _ h => h) (Or.inl ⟨by rfl, ?_⟩) (by assumption) ?_
        rotate_left
        · (intro w hSw; (try dsimp only at hSw); go_simp; try with_reducible rfl)
        try simp only [Act.put, List.setIfInBounds_toArray, List.set_cons_zero, List.set_cons_succ]
        refine wpAnyH_take (i := 11) (oi := ({ dst := some 57, op := Op.fieldAddr 42 (Operand.tmp 56) 2, type := 0, pos := "law.go:379", after := #[{ on := 10, ground := Ground.data }], guard := none } : Oper)) (v := ?_) rfl (by kernel_rfl) (by kernel_rfl) (by kernel_rfl) (fun _ _ _ h => h) (Or.inl ⟨by rfl, ?_⟩) (by assumption) ?_
        rotate_left
        · (intro w hSw; (try dsimp only at hSw); go_simp; try with_reducible rfl)
        try simp only [Act.put, List.setIfInBounds_toArray, List.set_cons_zero, List.set_cons_succ]
        refine wpAnyH_take (i := 12) (oi := ({ dst := some 58, op := Op.load 3 (Operand.tmp 57), type := 3, pos := "law.go:379", after := #[{ on := 11, ground := Ground.data }], guard := none } : Oper)) (v := ?_) rfl (by kernel_rfl) (by kernel_rfl) (by kernel_rfl) (fun _ _ _ h => h) (Or.inl ⟨by rfl, ?_⟩) (by assumption) ?_
        rotate_left
        · (intro w hSw; (try dsimp only at hSw); go_simp; try with_reducible rfl)
        try simp only [Act.put, List.setIfInBounds_toArray, List.set_cons_zero, List.set_cons_succ]
        refine wpAnyH_take (i := 13) (oi := ({ dst := some 59, op := Op.fieldAddr 23 (Operand.tmp 2) 1, type := 0, pos := "law.go:379", after := #[], guard := none } : Oper)) (v := ?_) rfl (by kernel_rfl) (by kernel_rfl) (by kernel_rfl) (fun _ _ _ h => h) (Or.inl ⟨by rfl, ?_⟩) (by assumption) ?_
        rotate_left
        · (intro w hSw; (try dsimp only at hSw); go_simp; try with_reducible rfl)
        try simp only [Act.put, List.setIfInBounds_toArray, List.set_cons_zero, List.set_cons_succ]
        refine wpAnyH_take (i := 14) (oi := ({ dst := some 60, op := Op.load 3 (Operand.tmp 59), type := 3, pos := "law.go:379", after := #[{ on := 13, ground := Ground.data }], guard := none } : Oper)) (v := ?_) rfl (by kernel_rfl) (by kernel_rfl) (by kernel_rfl) (fun _ _ _ h => h) (Or.inl ⟨by rfl, ?_⟩) (by assumption) ?_
        rotate_left
        · (intro w hSw; (try dsimp only at hSw); go_simp; try with_reducible rfl)
        try simp only [Act.put, List.setIfInBounds_toArray, List.set_cons_zero, List.set_cons_succ]
        refine wpAnyH_take (i := 16) (oi := ({ dst := some 62, op := Op.move (Operand.tmp 1), type := 25, pos := "law.go:379", after := #[], guard := none } : Oper)) (v := ?_) rfl (by kernel_rfl) (by kernel_rfl) (by kernel_rfl) (fun _ _ _ h => h) (Or.inl ⟨by rfl, ?_⟩) (by assumption) ?_
        rotate_left
        · (intro w hSw; (try dsimp only at hSw); go_simp; try with_reducible rfl)
        try simp only [Act.put, List.setIfInBounds_toArray, List.set_cons_zero, List.set_cons_succ]
        refine wpAnyH_take (i := 17) (oi := ({ dst := some 63, op := Op.move (Operand.tmp 7), type := 3, pos := "law.go:379", after := #[], guard := none } : Oper)) (v := ?_) rfl (by kernel_rfl) (by kernel_rfl) (by kernel_rfl) (fun _ _ _ h => h) (Or.inl ⟨by rfl, ?_⟩) (by assumption) ?_
        rotate_left
        · (intro w hSw; (try dsimp only at hSw); go_simp; try with_reducible rfl)
        try simp only [Act.put, List.setIfInBounds_toArray, List.set_cons_zero, List.set_cons_succ]
        refine wpAnyH_take (i := 18) (oi := ({ dst := some 64, op := Op.indexAddr 25 (Operand.tmp 62) (Operand.tmp 63), type := 0, pos := "law.go:379", after := #[{ on := 16, ground := Ground.data }, { on := 17, ground := Ground.data }], guard := none } : Oper)) (v := ?_) rfl (by kernel_rfl) (by kernel_rfl) (by kernel_rfl) (fun _ _ _ h => h) (Or.inl ⟨by rfl, ?_⟩) (by assumption) ?_
        rotate_left
        · (intro w hSw; (try dsimp only at hSw); go_simp; try with_reducible rfl)
        try simp only [Act.put, List.setIfInBounds_toArray, List.set_cons_zero, List.set_cons_succ]
        refine wpAnyH_take (i := 19) (oi := ({ dst := some 65, op := Op.fieldAddr 42 (Operand.tmp 64) 3, type := 0, pos := "law.go:379", after := #[{ on := 18, ground := Ground.data }], guard := none } : Oper)) (v := ?_) rfl (by kernel_rfl) (by kernel_rfl) (by kernel_rfl) (fun _ _ _ h => h) (Or.inl ⟨by rfl, ?_⟩) (by assumption) ?_
        rotate_left
        · (intro w hSw; (try dsimp only at hSw); go_simp; try with_reducible rfl)
        try simp only [Act.put, List.setIfInBounds_toArray, List.set_cons_zero, List.set_cons_succ]
        refine wpAnyH_take (i := 20) (oi := ({ dst := some 66, op := Op.load 3 (Operand.tmp 65), type := 3, pos := "law.go:379", after := #[{ on := 19, ground := Ground.data }], guard := none } : Oper)) (v := ?_) rfl (by kernel_rfl) (by kernel_rfl) (by kernel_rfl) (fun _ _ _ h => h) (Or.inl ⟨by rfl, ?_⟩) (by assumption) ?_
        rotate_left
        · (intro w hSw; (try dsimp only at hSw); go_simp; try with_reducible rfl)
        try simp only [Act.put, List.setIfInBounds_toArray, List.set_cons_zero, List.set_cons_succ]
        refine wpAnyH_take (i := 22) (oi := ({ dst := some 68, op := Op.move (Operand.tmp 1), type := 25, pos := "law.go:379", after := #[], guard := none } : Oper)) (v := ?_) rfl (by kernel_rfl) (by kernel_rfl) (by kernel_rfl) (fun _ _ _ h => h) (Or.inl ⟨by rfl, ?_⟩) (by assumption) ?_
        rotate_left
        · (intro w hSw; (try dsimp only at hSw); go_simp; try with_reducible rfl)
        try simp only [Act.put, List.setIfInBounds_toArray, List.set_cons_zero, List.set_cons_succ]
        refine wpAnyH_take (i := 23) (oi := ({ dst := some 69, op := Op.move (Operand.tmp 7), type := 3, pos := "law.go:379", after := #[], guard := none } : Oper)) (v := ?_) rfl (by kernel_rfl) (by kernel_rfl) (by kernel_rfl) (fun _ _ _ h => h) (Or.inl ⟨by rfl, ?_⟩) (by assumption) ?_
        rotate_left
        · (intro w hSw; (try dsimp only at hSw); go_simp; try with_reducible rfl)
        try simp only [Act.put, List.setIfInBounds_toArray, List.set_cons_zero, List.set_cons_succ]
        refine wpAnyH_take (i := 24) (oi := ({ dst := some 70, op := Op.indexAddr 25 (Operand.tmp 68) (Operand.tmp 69), type := 0, pos := "law.go:379", after := #[{ on := 22, ground := Ground.data }, { on := 23, ground := Ground.data }], guard := none } : Oper)) (v := ?_) rfl (by kernel_rfl) (by kernel_rfl) (by kernel_rfl) (fun _ _ _ h => h) (Or.inl ⟨by rfl, ?_⟩) (by assumption) ?_
        rotate_left
        · (intro w hSw; (try dsimp only at hSw); go_simp; try with_reducible rfl)
        try simp only [Act.put, List.setIfInBounds_toArray, List.set_cons_zero, List.set_cons_succ]
        refine wpAnyH_take (i := 25) (oi := ({ dst := some 71, op := Op.fieldAddr 42 (Operand.tmp 70) 4, type := 0, pos := "law.go:379", after := #[{ on := 24, ground := Ground.data }], guard := none } : Oper)) (v := ?_) rfl (by kernel_rfl) (by kernel_rfl) (by kernel_rfl) (fun _ _ _ h => h) (Or.inl ⟨by rfl, ?_⟩) (by assumption) ?_
        rotate_left
        · (intro w hSw; (try dsimp only at hSw); go_simp; try with_reducible rfl)
        try simp only [Act.put, List.setIfInBounds_toArray, List.set_cons_zero, List.set_cons_succ]
        refine wpAnyH_take (i := 26) (oi := ({ dst := some 72, op := Op.load 34 (Operand.tmp 71), type := 34, pos := "law.go:379", after := #[{ on := 25, ground := Ground.data }], guard := none } : Oper)) (v := ?_) rfl (by kernel_rfl) (by kernel_rfl) (by kernel_rfl) (fun _ _ _ h => h) (Or.inl ⟨by rfl, ?_⟩) (by assumption) ?_
        rotate_left
        · (intro w hSw; (try dsimp only at hSw); go_simp; try with_reducible rfl)
        try simp only [Act.put, List.setIfInBounds_toArray, List.set_cons_zero, List.set_cons_succ]
        refine wpAnyH_ready (rs := [7, 28]) (by kernel_rfl) (by simp) ?_
        refine AllReadyH.cons (o := ({ dst := some 53, op := Op.call { callee := Callee.value (Operand.func 26), args := #[Operand.tmp 50, Operand.tmp 52], argTypes := #[3, 3] }, type := 3, pos := "law.go:379", after := #[{ on := 4, ground := Ground.data }, { on := 6, ground := Ground.data }], guard := none } : Oper)) rfl (fun K hK => ?_) (AllReadyH.cons (o := ({ dst := some 8, op := Op.alloc 42, type := 0, pos := "law.go:379", after := #[], guard := none } : Oper)) rfl (fun K hK => ?_) AllReadyH.nil)
        · go_simp
          go_at_call 26
          (with_reducible refine (Q1.out _).mono ?_)
          rintro e w' ⟨rfl, rfl⟩
          try go_wp2_with fail
          refine hK.out _ _ ?_ (fun hHeld => ?_)
          · exact ⟨hB, hB'⟩
          clear hK K
          try simp only [Act.put, List.setIfInBounds_toArray, List.set_cons_zero, List.set_cons_succ]
          refine wpAnyH_ready (rs := [15, 28]) (by kernel_rfl) (by simp) ?_
          refine AllReadyH.cons (o := ({ dst := some 61, op := Op.call { callee := Callee.value (Operand.func 26), args := #[Operand.tmp 58, Operand.tmp 60], argTypes := #[3, 3] }, type := 3, pos := "law.go:379", after := #[{ on := 12, ground := Ground.data }, { on := 14, ground := Ground.data }, { on := 7, ground := Ground.chain }], guard := none } : Oper)) rfl (fun K hK => ?_) (AllReadyH.cons (o := ({ dst := some 8, op := Op.alloc 42, type := 0, pos := "law.go:379", after := #[], guard := none } : Oper)) rfl (fun K hK => ?_) AllReadyH.nil)
          · go_simp
            go_at_call 26
            (with_reducible refine (Q2.out _).mono ?_)
            rintro e w' ⟨rfl, rfl⟩
            try go_wp2_with fail
            refine hK.out _ _ ?_ (fun hHeld => ?_)
            · exact ⟨hB, hB'⟩
            clear hK K
            try simp only [Act.put, List.setIfInBounds_toArray, List.set_cons_zero, List.set_cons_succ]
            refine wpAnyH_ready (rs := [21, 28]) (by kernel_rfl) (by simp) ?_
            refine AllReadyH.cons (o := ({ dst := some 67, op := Op.call { callee := Callee.value (Operand.func 26), args := #[Operand.tmp 66, Operand.const (Value.int IntKind.i64 8)], argTypes := #[3, 3] }, type := 3, pos := "law.go:379", after := #[{ on := 20, ground := Ground.data }, { on := 15, ground := Ground.chain }], guard := none } : Oper)) rfl (fun K hK => ?_) (AllReadyH.cons (o := ({ dst := some 8, op := Op.alloc 42, type := 0, pos := "law.go:379", after := #[], guard := none } : Oper)) rfl (fun K hK => ?_) AllReadyH.nil)
            · go_simp
              go_at_call 26
              (with_reducible refine (Q3.out _).mono ?_)
              rintro e w' ⟨rfl, rfl⟩
              try go_wp2_with fail
              refine hK.out _ _ ?_ (fun hHeld => ?_)
              · exact ⟨hB, hB'⟩
              clear hK K
              try simp only [Act.put, List.setIfInBounds_toArray, List.set_cons_zero, List.set_cons_succ]
              refine wpAnyH_take (i := 27) (oi := ({ dst := some 73, op := Op.build 42 #[(1, Operand.tmp 53), (2, Operand.tmp 61), (3, Operand.tmp 67), (4, Operand.tmp 72)], type := 42, pos := "law.go:379", after := #[{ on := 7, ground := Ground.data }, { on := 15, ground := Ground.data }, { on := 21, ground := Ground.data }, { on := 26, ground := Ground.data }], guard := none } : Oper)) (v := ?_) rfl (by kernel_rfl) (by kernel_rfl) (by kernel_rfl) (fun _ _ _ h => h) (Or.inl ⟨by rfl, ?_⟩) (by assumption) ?_
              rotate_left
              · (intro w hSw; (try dsimp only at hSw); go_simp; try with_reducible rfl)
              try simp only [Act.put, List.setIfInBounds_toArray, List.set_cons_zero, List.set_cons_succ]
              refine wpAnyH_ready (rs := [28]) (by kernel_rfl) (by simp) ?_
              refine AllReadyH.cons (o := ({ dst := some 8, op := Op.alloc 42, type := 0, pos := "law.go:379", after := #[], guard := none } : Oper)) rfl (fun K hK => ?_) AllReadyH.nil
              go_simp
              refine hK.out _ _ ?_ (fun hHeld => ?_)
              · exact ⟨hA _, hA' _⟩
              clear hK K
              try simp only [Act.put, List.setIfInBounds_toArray, List.set_cons_zero, List.set_cons_succ]
              refine wpAnyH_ready (rs := [29]) (by kernel_rfl) (by simp) ?_
              refine AllReadyH.cons (o := ({ dst := none, op := Op.store 42 (Operand.tmp 8) (Operand.tmp 73), type := 0, pos := "law.go:379", after := #[{ on := 28, ground := Ground.data }, { on := 27, ground := Ground.data }, { on := 21, ground := Ground.chain }, { on := 0, ground := Ground.phase }, { on := 1, ground := Ground.phase }, { on := 2, ground := Ground.phase }, { on := 3, ground := Ground.phase }, { on := 4, ground := Ground.phase }, { on := 5, ground := Ground.phase }, { on := 6, ground := Ground.phase }, { on := 7, ground := Ground.phase }, { on := 8, ground := Ground.phase }, { on := 9, ground := Ground.phase }, { on := 10, ground := Ground.phase }, { on := 11, ground := Ground.phase }, { on := 12, ground := Ground.phase }, { on := 13, ground := Ground.phase }, { on := 14, ground := Ground.phase }, { on := 15, ground := Ground.phase }, { on := 16, ground := Ground.phase }, { on := 17, ground := Ground.phase }, { on := 18, ground := Ground.phase }, { on := 19, ground := Ground.phase }, { on := 20, ground := Ground.phase }, { on := 21, ground := Ground.phase }, { on := 22, ground := Ground.phase }, { on := 23, ground := Ground.phase }, { on := 24, ground := Ground.phase }, { on := 25, ground := Ground.phase }, { on := 26, ground := Ground.phase }, { on := 27, ground := Ground.phase }, { on := 28, ground := Ground.phase }], guard := none } : Oper)) rfl (fun K hK => ?_) AllReadyH.nil
              go_simp
              refine hK.out _ _ ?_ (fun hHeld => ?_)
              · exact ⟨hP, hP'⟩
              clear hK K
              try simp only [Act.put, List.setIfInBounds_toArray, List.set_cons_zero, List.set_cons_succ]
              refine wpAnyH_done (by kernel_rfl) ?_ _
              refine NoPanic.normal ?_
              go_wp2_with fail
              go_meet
              case rel => exact ⟨rfl, rfl⟩
            · go_simp
              refine hK.out _ _ ?_ (fun hHeld => ?_)
              · exact ⟨hA _, hA' _⟩
              clear hK K
              try simp only [Act.put, List.setIfInBounds_toArray, List.set_cons_zero, List.set_cons_succ]
              refine wpAnyH_ready (rs := [21]) (by kernel_rfl) (by simp) ?_
              refine AllReadyH.cons (o := ({ dst := some 67, op := Op.call { callee := Callee.value (Operand.func 26), args := #[Operand.tmp 66, Operand.const (Value.int IntKind.i64 8)], argTypes := #[3, 3] }, type := 3, pos := "law.go:379", after := #[{ on := 20, ground := Ground.data }, { on := 15, ground := Ground.chain }], guard := none } : Oper)) rfl (fun K hK => ?_) AllReadyH.nil
              go_simp
              go_at_call 26
              (with_reducible refine (Q3.out _).mono ?_)
              rintro e w' ⟨rfl, rfl⟩
              try go_wp2_with fail
              refine hK.out _ _ ?_ (fun hHeld => ?_)
              · exact ⟨hA _, hA' _⟩
              clear hK K
              try simp only [Act.put, List.setIfInBounds_toArray, List.set_cons_zero, List.set_cons_succ]
              refine wpAnyH_take (i := 27) (oi := ({ dst := some 73, op := Op.build 42 #[(1, Operand.tmp 53), (2, Operand.tmp 61), (3, Operand.tmp 67), (4, Operand.tmp 72)], type := 42, pos := "law.go:379", after := #[{ on := 7, ground := Ground.data }, { on := 15, ground := Ground.data }, { on := 21, ground := Ground.data }, { on := 26, ground := Ground.data }], guard := none } : Oper)) (v := ?_) rfl (by kernel_rfl) (by kernel_rfl) (by kernel_rfl) (fun _ _ _ h => h) (Or.inl ⟨by rfl, ?_⟩) (by assumption) ?_
              rotate_left
              · (intro w hSw; (try dsimp only at hSw); go_simp; try with_reducible rfl)
              try simp only [Act.put, List.setIfInBounds_toArray, List.set_cons_zero, List.set_cons_succ]
              refine wpAnyH_ready (rs := [29]) (by kernel_rfl) (by simp) ?_
              refine AllReadyH.cons (o := ({ dst := none, op := Op.store 42 (Operand.tmp 8) (Operand.tmp 73), type := 0, pos := "law.go:379", after := #[{ on := 28, ground := Ground.data }, { on := 27, ground := Ground.data }, { on := 21, ground := Ground.chain }, { on := 0, ground := Ground.phase }, { on := 1, ground := Ground.phase }, { on := 2, ground := Ground.phase }, { on := 3, ground := Ground.phase }, { on := 4, ground := Ground.phase }, { on := 5, ground := Ground.phase }, { on := 6, ground := Ground.phase }, { on := 7, ground := Ground.phase }, { on := 8, ground := Ground.phase }, { on := 9, ground := Ground.phase }, { on := 10, ground := Ground.phase }, { on := 11, ground := Ground.phase }, { on := 12, ground := Ground.phase }, { on := 13, ground := Ground.phase }, { on := 14, ground := Ground.phase }, { on := 15, ground := Ground.phase }, { on := 16, ground := Ground.phase }, { on := 17, ground := Ground.phase }, { on := 18, ground := Ground.phase }, { on := 19, ground := Ground.phase }, { on := 20, ground := Ground.phase }, { on := 21, ground := Ground.phase }, { on := 22, ground := Ground.phase }, { on := 23, ground := Ground.phase }, { on := 24, ground := Ground.phase }, { on := 25, ground := Ground.phase }, { on := 26, ground := Ground.phase }, { on := 27, ground := Ground.phase }, { on := 28, ground := Ground.phase }], guard := none } : Oper)) rfl (fun K hK => ?_) AllReadyH.nil
              go_simp
              refine hK.out _ _ ?_ (fun hHeld => ?_)
              · exact ⟨hP, hP'⟩
              clear hK K
              try simp only [Act.put, List.setIfInBounds_toArray, List.set_cons_zero, List.set_cons_succ]
              refine wpAnyH_done (by kernel_rfl) ?_ _
              refine NoPanic.normal ?_
              go_wp2_with fail
              go_meet
              case rel => exact ⟨rfl, rfl⟩
          · go_simp
            refine hK.out _ _ ?_ (fun hHeld => ?_)
            · exact ⟨hA _, hA' _⟩
            clear hK K
            try simp only [Act.put, List.setIfInBounds_toArray, List.set_cons_zero, List.set_cons_succ]
            refine wpAnyH_ready (rs := [15]) (by kernel_rfl) (by simp) ?_
            refine AllReadyH.cons (o := ({ dst := some 61, op := Op.call { callee := Callee.value (Operand.func 26), args := #[Operand.tmp 58, Operand.tmp 60], argTypes := #[3, 3] }, type := 3, pos := "law.go:379", after := #[{ on := 12, ground := Ground.data }, { on := 14, ground := Ground.data }, { on := 7, ground := Ground.chain }], guard := none } : Oper)) rfl (fun K hK => ?_) AllReadyH.nil
            go_simp
            go_at_call 26
            (with_reducible refine (Q2.out _).mono ?_)
            rintro e w' ⟨rfl, rfl⟩
            try go_wp2_with fail
            refine hK.out _ _ ?_ (fun hHeld => ?_)
            · exact ⟨hA _, hA' _⟩
            clear hK K
            try simp only [Act.put, List.setIfInBounds_toArray, List.set_cons_zero, List.set_cons_succ]
            refine wpAnyH_ready (rs := [21]) (by kernel_rfl) (by simp) ?_
            refine AllReadyH.cons (o := ({ dst := some 67, op := Op.call { callee := Callee.value (Operand.func 26), args := #[Operand.tmp 66, Operand.const (Value.int IntKind.i64 8)], argTypes := #[3, 3] }, type := 3, pos := "law.go:379", after := #[{ on := 20, ground := Ground.data }, { on := 15, ground := Ground.chain }], guard := none } : Oper)) rfl (fun K hK => ?_) AllReadyH.nil
            go_simp
            go_at_call 26
            (with_reducible refine (Q3.out _).mono ?_)
            rintro e w' ⟨rfl, rfl⟩
            try go_wp2_with fail
            refine hK.out _ _ ?_ (fun hHeld => ?_)
            · exact ⟨hA _, hA' _⟩
            clear hK K
            try simp only [Act.put, List.setIfInBounds_toArray, List.set_cons_zero, List.set_cons_succ]
            refine wpAnyH_take (i := 27) (oi := ({ dst := some 73, op := Op.build 42 #[(1, Operand.tmp 53), (2, Operand.tmp 61), (3, Operand.tmp 67), (4, Operand.tmp 72)], type := 42, pos := "law.go:379", after := #[{ on := 7, ground := Ground.data }, { on := 15, ground := Ground.data }, { on := 21, ground := Ground.data }, { on := 26, ground := Ground.data }], guard := none } : Oper)) (v := ?_) rfl (by kernel_rfl) (by kernel_rfl) (by kernel_rfl) (fun _ _ _ h => h) (Or.inl ⟨by rfl, ?_⟩) (by assumption) ?_
            rotate_left
            · (intro w hSw; (try dsimp only at hSw); go_simp; try with_reducible rfl)
            try simp only [Act.put, List.setIfInBounds_toArray, List.set_cons_zero, List.set_cons_succ]
            refine wpAnyH_ready (rs := [29]) (by kernel_rfl) (by simp) ?_
            refine AllReadyH.cons (o := ({ dst := none, op := Op.store 42 (Operand.tmp 8) (Operand.tmp 73), type := 0, pos := "law.go:379", after := #[{ on := 28, ground := Ground.data }, { on := 27, ground := Ground.data }, { on := 21, ground := Ground.chain }, { on := 0, ground := Ground.phase }, { on := 1, ground := Ground.phase }, { on := 2, ground := Ground.phase }, { on := 3, ground := Ground.phase }, { on := 4, ground := Ground.phase }, { on := 5, ground := Ground.phase }, { on := 6, ground := Ground.phase }, { on := 7, ground := Ground.phase }, { on := 8, ground := Ground.phase }, { on := 9, ground := Ground.phase }, { on := 10, ground := Ground.phase }, { on := 11, ground := Ground.phase }, { on := 12, ground := Ground.phase }, { on := 13, ground := Ground.phase }, { on := 14, ground := Ground.phase }, { on := 15, ground := Ground.phase }, { on := 16, ground := Ground.phase }, { on := 17, ground := Ground.phase }, { on := 18, ground := Ground.phase }, { on := 19, ground := Ground.phase }, { on := 20, ground := Ground.phase }, { on := 21, ground := Ground.phase }, { on := 22, ground := Ground.phase }, { on := 23, ground := Ground.phase }, { on := 24, ground := Ground.phase }, { on := 25, ground := Ground.phase }, { on := 26, ground := Ground.phase }, { on := 27, ground := Ground.phase }, { on := 28, ground := Ground.phase }], guard := none } : Oper)) rfl (fun K hK => ?_) AllReadyH.nil
            go_simp
            refine hK.out _ _ ?_ (fun hHeld => ?_)
            · exact ⟨hP, hP'⟩
            clear hK K
            try simp only [Act.put, List.setIfInBounds_toArray, List.set_cons_zero, List.set_cons_succ]
            refine wpAnyH_done (by kernel_rfl) ?_ _
            refine NoPanic.normal ?_
            go_wp2_with fail
            go_meet
            case rel => exact ⟨rfl, rfl⟩
        · go_simp
          refine hK.out _ _ ?_ (fun hHeld => ?_)
          · exact ⟨hA _, hA' _⟩
          clear hK K
          try simp only [Act.put, List.setIfInBounds_toArray, List.set_cons_zero, List.set_cons_succ]
          refine wpAnyH_ready (rs := [7]) (by kernel_rfl) (by simp) ?_
          refine AllReadyH.cons (o := ({ dst := some 53, op := Op.call { callee := Callee.value (Operand.func 26), args := #[Operand.tmp 50, Operand.tmp 52], argTypes := #[3, 3] }, type := 3, pos := "law.go:379", after := #[{ on := 4, ground := Ground.data }, { on := 6, ground := Ground.data }], guard := none } : Oper)) rfl (fun K hK => ?_) AllReadyH.nil
          go_simp
          go_at_call 26
          (with_reducible refine (Q1.out _).mono ?_)
          rintro e w' ⟨rfl, rfl⟩
          try go_wp2_with fail
          refine hK.out _ _ ?_ (fun hHeld => ?_)
          · exact ⟨hA _, hA' _⟩
          clear hK K
          try simp only [Act.put, List.setIfInBounds_toArray, List.set_cons_zero, List.set_cons_succ]
          refine wpAnyH_ready (rs := [15]) (by kernel_rfl) (by simp) ?_
          refine AllReadyH.cons (o := ({ dst := some 61, op := Op.call { callee := Callee.value (Operand.func 26), args := #[Operand.tmp 58, Operand.tmp 60], argTypes := #[3, 3] }, type := 3, pos := "law.go:379", after := #[{ on := 12, ground := Ground.data }, { on := 14, ground := Ground.data }, { on := 7, ground := Ground.chain }], guard := none } : Oper)) rfl (fun K hK => ?_) AllReadyH.nil
          go_simp
          go_at_call 26
          (with_reducible refine (Q2.out _).mono ?_)
          rintro e w' ⟨rfl, rfl⟩
          try go_wp2_with fail
          refine hK.out _ _ ?_ (fun hHeld => ?_)
          · exact ⟨hA _, hA' _⟩
          clear hK K
          try simp only [Act.put, List.setIfInBounds_toArray, List.set_cons_zero, List.set_cons_succ]
          refine wpAnyH_ready (rs := [21]) (by kernel_rfl) (by simp) ?_
          refine AllReadyH.cons (o := ({ dst := some 67, op := Op.call { callee := Callee.value (Operand.func 26), args := #[Operand.tmp 66, Operand.const (Value.int IntKind.i64 8)], argTypes := #[3, 3] }, type := 3, pos := "law.go:379", after := #[{ on := 20, ground := Ground.data }, { on := 15, ground := Ground.chain }], guard := none } : Oper)) rfl (fun K hK => ?_) AllReadyH.nil
          go_simp
          go_at_call 26
          (with_reducible refine (Q3.out _).mono ?_)
          rintro e w' ⟨rfl, rfl⟩
          try go_wp2_with fail
          refine hK.out _ _ ?_ (fun hHeld => ?_)
          · exact ⟨hA _, hA' _⟩
          clear hK K
          try simp only [Act.put, List.setIfInBounds_toArray, List.set_cons_zero, List.set_cons_succ]
          refine wpAnyH_take (i := 27) (oi := ({ dst := some 73, op := Op.build 42 #[(1, Operand.tmp 53), (2, Operand.tmp 61), (3, Operand.tmp 67), (4, Operand.tmp 72)], type := 42, pos := "law.go:379", after := #[{ on := 7, ground := Ground.data }, { on := 15, ground := Ground.data }, { on := 21, ground := Ground.data }, { on := 26, ground := Ground.data }], guard := none } : Oper)) (v := ?_) rfl (by kernel_rfl) (by kernel_rfl) (by kernel_rfl) (fun _ _ _ h => h) (Or.inl ⟨by rfl, ?_⟩) (by assumption) ?_
          rotate_left
          · (intro w hSw; (try dsimp only at hSw); go_simp; try with_reducible rfl)
          try simp only [Act.put, List.setIfInBounds_toArray, List.set_cons_zero, List.set_cons_succ]
          refine wpAnyH_ready (rs := [29]) (by kernel_rfl) (by simp) ?_
          refine AllReadyH.cons (o := ({ dst := none, op := Op.store 42 (Operand.tmp 8) (Operand.tmp 73), type := 0, pos := "law.go:379", after := #[{ on := 28, ground := Ground.data }, { on := 27, ground := Ground.data }, { on := 21, ground := Ground.chain }, { on := 0, ground := Ground.phase }, { on := 1, ground := Ground.phase }, { on := 2, ground := Ground.phase }, { on := 3, ground := Ground.phase }, { on := 4, ground := Ground.phase }, { on := 5, ground := Ground.phase }, { on := 6, ground := Ground.phase }, { on := 7, ground := Ground.phase }, { on := 8, ground := Ground.phase }, { on := 9, ground := Ground.phase }, { on := 10, ground := Ground.phase }, { on := 11, ground := Ground.phase }, { on := 12, ground := Ground.phase }, { on := 13, ground := Ground.phase }, { on := 14, ground := Ground.phase }, { on := 15, ground := Ground.phase }, { on := 16, ground := Ground.phase }, { on := 17, ground := Ground.phase }, { on := 18, ground := Ground.phase }, { on := 19, ground := Ground.phase }, { on := 20, ground := Ground.phase }, { on := 21, ground := Ground.phase }, { on := 22, ground := Ground.phase }, { on := 23, ground := Ground.phase }, { on := 24, ground := Ground.phase }, { on := 25, ground := Ground.phase }, { on := 26, ground := Ground.phase }, { on := 27, ground := Ground.phase }, { on := 28, ground := Ground.phase }], guard := none } : Oper)) rfl (fun K hK => ?_) AllReadyH.nil
          go_simp
          refine hK.out _ _ ?_ (fun hHeld => ?_)
          · exact ⟨hP, hP'⟩
          clear hK K
          try simp only [Act.put, List.setIfInBounds_toArray, List.set_cons_zero, List.set_cons_succ]
          refine wpAnyH_done (by kernel_rfl) ?_ _
          refine NoPanic.normal ?_
          go_wp2_with fail
          go_meet
          case rel => exact ⟨rfl, rfl⟩
      case rest =>
        obtain ⟨rfl, rfl⟩ := hcut
        have hx0 : (putRow (wr.alloc (.cells (mstc mstZ) 42)).drew wr.heap.size 0 (mstc ⟨0, k, i, d, x.v⟩)).heap[wr.heap.size]? = some (.cells (mstc ⟨0, k, i, d, x.v⟩) 42 (0, 0)) := by
          have h1 : (wr.alloc (.cells (mstc mstZ) 42)).drew.heap[wr.heap.size]? = some (.cells (mstc mstZ) 42 (0, 0)) := by simp
          rw [heap_putRow _ _ _ _ _ (by rw [h1]; rfl), if_pos rfl, h1]
          exact rowPut_full _ _ _ _ rfl
        have NB1 := Lib.hid (show bc ∉ F from fun h => Nat.lt_irrefl _ (HF.out _ h))
        have NB2 := Lib.hid (show wr.heap.size ∉ F from fun h => Nat.lt_irrefl _ (Mem.old HM.out _ h))
        have LTX := Lib.hid (show bc < wr.heap.size from ocf.lt)
        have M4 := Lib.hid (show MS W (putRow (wr.alloc (.cells (mstc mstZ) 42)).drew wr.heap.size 0 (mstc ⟨0, k, i, d, x.v⟩)) c sy F S from Mem.keepL HM.out HPC.out (by intro b hb; rw [List.mem_singleton] at hb; subst hb; exact NB2.out) (by intro b hb; rw [List.mem_singleton] at hb; subst hb; exact (Mem.chg HM.out).size))
        have SZ0 := Lib.hid HPC.out.size
        have RC := Lib.hid hP
        clear hA hA' hB hB' hP' hbr obr z1 z2 z3 z4 Z1 Z2 Z3 Z4 Q1 Q2 Q3 rcf ocf HBR HPC
        generalize putRow (wr.alloc (.cells (mstc mstZ) 42)).drew wr.heap.size 0 (mstc ⟨0, k, i, d, x.v⟩) = w0 at hP hx0 M4 SZ0 RC ⊢
        generalize wr.heap.size = bx at hx0 NB2 LTX SZ0 ⊢
        have RX := Lib.hid hx0
        have oc0 := old hP
        have ox0 := old hx0
        have HC0 := Lib.hid (show Chg F w0 w0 ∧ ∀ k ∈ F, k ∈ F ∨ w0.heap.size ≤ k from ⟨Chg.refl _ _, fun k hk => .inl hk⟩)
        have HC8 := Lib.hid (HQ.out.cur8 HI0.out HI.out)
        have gk0 : (0 : Int) ≤ (k : Int) := by omega
        have gk1 : (k : Int) < 8 := by have := HK.out; omega
        have NQ := Lib.hid (show q * 5000 + 4000 ≤ 1000000000 by have := HQN.out; omega)
        go_wp2_with fail
        refine (write_any ⟨0, k, i, d, x.v⟩ k i d ⟨rfl, rfl, rfl⟩ HK.out HI.out HD.out M4.out HI0.out HQ.out (by have := NQ.out; omega) H12.out HT.out).mono ?_
        rintro e w5 ⟨rfl, S5, m5, i5, q5, e5, v5, _⟩
        obtain ⟨F5, hm5, hc5, hk5⟩ := MTS.go M4.out HC0.out.1 HC0.out.2 m5
        have HM5 := Lib.hid (show MS W w5 c sy F5 S5 from hm5)
        have HC5 := Lib.hid (show Chg F w0 w5 ∧ ∀ k ∈ F5, k ∈ F ∨ w0.heap.size ≤ k from ⟨hc5, hk5⟩)
        have rc5 := hc5.keep RC.out NB1.out
        have rx5 := hc5.keep RX.out NB2.out
        clear m5 hm5 hc5 hk5
        have oc5 := old rc5
        have ox5 := old rx5
        have Q5 := Lib.hid q5
        have E5 := Lib.hid (e5 HES.out)
        obtain ⟨cur5, hcur5⟩ : ∃ cur5, upd9 cur i d x.v = cur5 := ⟨_, rfl⟩
        have HCV := Lib.hid (show (cur5 i).getD d 0 = x.v by rw [← hcur5]; exact upd9_at _ _ _ _ (by rw [HC8.out]; exact HD.out))
        rw [hcur5] at i5
        have I5 := Lib.hid i5
        clear i5 q5 e5 v5 hcur5 hP hx0 oc0 ox0 M4
        obtain ⟨o, ho⟩ : ∃ o, (k + 1) % c.co = o := ⟨_, rfl⟩
        have HO := Lib.hid (show o < c.co by rw [← ho]; exact Nat.mod_lt _ HCO.out.co1)
        have hrem : ((k : Int) + 1).tmod (c.co : Int) = (o : Int) := by rw [← ho]; rfl
        clear ho
        have HREM := Lib.hid hrem
        go_wp2_with fail
        clear rc5 rx5 oc5 ox5 hrem
        go_loopw [11, 10] (fun i' s10 wr => ∃ (t : Nat) (F1 : List Nat) (S1 : Mst) (g : Bool), t ≤ 3 ∧ i' = .int .i64 t ∧ s10 = .bool g ∧ MS W wr c sy F1 S1 ∧ (Chg F w0 wr ∧ ∀ k ∈ F1, k ∈ F ∨ w0.heap.size ≤ k) ∧ Inv c (q * 5000 + 1000 + t * 300) S1 cur5 ∧ Quiet c S1 ∧ S1.es = [] ∧ (g = false → Stg9 c o i 1 S5 t S1)) (fun i' _ _ => 12 - (intOf i').toNat)
        case atStart => exact ⟨0, F5, S5, false, by omega, rfl, rfl, HM5.out, HC5.out, I5.out.mono (by omega), Q5.out, E5.out, fun _ => Stg9.start c o i 1 S5⟩
        case round =>
          obtain ⟨t, F1, S1, g, ht3, rfl, rfl, hm, hc, hI, hQ, hes, hg⟩ := hrel
          have HM1 := Lib.hid hm
          have HC1 := Lib.hid hc
          have HI1 := Lib.hid hI
          have HQ1 := Lib.hid hQ
          have HES1 := Lib.hid hes
          have rc1 := hc.1.keep RC.out NB1.out
          have rx1 := hc.1.keep RX.out NB2.out
          have oc1 := old rc1
          have ox1 := old rx1
          have HT3 := Lib.hid ht3
          have gt0 : (0 : Int) ≤ (t : Int) := by omega
          have gt1 : (t : Int) < 12 := by omega
          have tt : decide (t < 12) = true := decide_eq_true (by omega)
          clear hm hc hI hQ hes ht3
          cases g with
          | false =>
            have HG1 := Lib.hid (hg rfl)
            clear hg
            have HT2 := Lib.hid (HG1.out.two)
            have HWD := Lib.hid (show isWd (d : Int) = true by unfold isWd; have := HD.out; simp; omega)
            have hop := sload9 HM1.out HI1.out (by have := HT3.out; have := NQ.out; omega) HQ1.out.short HT.out o i d
            have hi2 := HI1.out.loadM o i d
            have hl := HQ1.out.load HI1.out HO.out HI.out HWD.out
            obtain ⟨y, hy⟩ : ∃ y, loadM c S1 o i d = y := ⟨_, rfl⟩
            rw [hy] at hop hi2 hl
            obtain ⟨S2, dv, dh, dm, de⟩ := y
            clear hy
            dsimp only at hop hi2 hl
            have HOP := Lib.hid hop
            have HI2 := Lib.hid hi2
            clear hop hi2
            rcases hl with ⟨_, rfl, l1, l2, l3, l4⟩ | ⟨l0, rfl, l1⟩
            · rw [Int.toNat_natCast, HCV.out] at l1
              obtain rfl := l1
              have HQ2 := Lib.hid l2
              have HE2 := Lib.hid (l4.trans HES1.out)
              have tv : (x.v != x.v) = false := by simp
              clear l2 l3 l4
              go_wp2_with fail
              refine HOP.out.mono ?_
              rintro e w2 ⟨rfl, m2⟩
              obtain ⟨F2, hm2, hc2, hk2⟩ := MTS.go HM1.out HC1.out.1 HC1.out.2 m2
              have HM2 := Lib.hid (show MS W w2 c sy F2 S2 from hm2)
              have HC2 := Lib.hid (show Chg F w0 w2 ∧ ∀ k ∈ F2, k ∈ F ∨ w0.heap.size ≤ k from ⟨hc2, hk2⟩)
              have rc2 := hc2.keep RC.out NB1.out
              have rx2 := hc2.keep RX.out NB2.out
              clear m2 hm2 hc2 hk2
              have oc2 := old rc2
              have ox2 := old rx2
              clear rc1 rx1 oc1 ox1 HOP
              go_wp2_with fail
              refine (settle_any HM2.out HI2.out (by have := NQ.out; have := HT3.out; omega) H12.out HT.out (Fam.rest c cur5 S2.ps S2.en True) ⟨HQ2.out, rfl, rfl, fun _ => HE2.out⟩).mono ?_
              rintro e w4 ⟨rfl, S4, m4, i4, p4⟩
              obtain ⟨F4, hm4, hc4, hk4⟩ := MTS.go HM2.out HC2.out.1 HC2.out.2 m4
              have HM4 := Lib.hid (show MS W w4 c sy F4 S4 from hm4)
              have HC4 := Lib.hid (show Chg F w0 w4 ∧ ∀ k ∈ F4, k ∈ F ∨ w0.heap.size ≤ k from ⟨hc4, hk4⟩)
              have HI4 := Lib.hid i4
              have HP4 := Lib.hid p4
              clear m4 hm4 hc4 hk4 i4 p4
              go_wp2_with fail
              go_roundw
              case measure => have := HT2.out; simp [intOf]; omega
              case rel => exact ⟨t + 1, F4, S4, true, by have := HT2.out; omega, by go_num, rfl, HM4.out, HC4.out, HI4.out.mono (by omega), HP4.out.1, HP4.out.2.2.2 trivial, fun h => by cases h⟩
            · obtain ⟨CC9, LL9, f1, f2, f3⟩ := l1.way HI1.out HQ1.out HO.out HI.out (.inl rfl)
              have HF1 := Lib.hid f1
              have HF2 := Lib.hid f2
              have HF3 := Lib.hid f3
              have HNR := Lib.hid (show ¬ Ready9 o i 1 S1 from fun h => h.1 rfl l0)
              clear l0 l1 f1 f2 f3
              go_wp2_with fail
              refine HOP.out.mono ?_
              rintro e w2 ⟨rfl, m2⟩
              obtain ⟨F2, hm2, hc2, hk2⟩ := MTS.go HM1.out HC1.out.1 HC1.out.2 m2
              have HM2 := Lib.hid (show MS W w2 c sy F2 S2 from hm2)
              have HC2 := Lib.hid (show Chg F w0 w2 ∧ ∀ k ∈ F2, k ∈ F ∨ w0.heap.size ≤ k from ⟨hc2, hk2⟩)
              have rc2 := hc2.keep RC.out NB1.out
              have rx2 := hc2.keep RX.out NB2.out
              clear m2 hm2 hc2 hk2
              have oc2 := old rc2
              have ox2 := old rx2
              clear rc1 rx1 oc1 ox1 HOP
              go_wp2_with fail
              refine (settle_any HM2.out HI2.out (by have := NQ.out; have := HT3.out; omega) H12.out HT.out HF1.out HF2.out).mono ?_
              rintro e w4 ⟨rfl, S4, m4, i4, p4⟩
              obtain ⟨F4, hm4, hc4, hk4⟩ := MTS.go HM2.out HC2.out.1 HC2.out.2 m4
              have HM4 := Lib.hid (show MS W w4 c sy F4 S4 from hm4)
              have HC4 := Lib.hid (show Chg F w0 w4 ∧ ∀ k ∈ F4, k ∈ F ∨ w0.heap.size ≤ k from ⟨hc4, hk4⟩)
              have HI4 := Lib.hid i4
              have HE4 := Lib.hid (HF3.out S4 _ i4 p4)
              clear m4 hm4 hc4 hk4 i4 p4
              go_wp2_with fail
              go_roundw
              case measure => have := HT2.out; simp [intOf]; omega
              case rel => exact ⟨t + 1, F4, S4, false, by have := HT2.out; omega, by go_num, rfl, HM4.out, HC4.out, HI4.out.mono (by omega), HE4.out.1, HE4.out.2.1 HES1.out, fun _ => HG1.out.next HNR.out HE4.out.2.2.1 (fun hr => ⟨(HE4.out.2.2.2 hr).1, (HE4.out.2.2.2 hr).2.1⟩)⟩
          | true =>
            clear hg
            have hkd : (4 + (q : Int) % 2 = 4) ∨ (4 + (q : Int) % 2 = 5) := by omega
            have hfl := (HQ1.out.flush HI1.out HK.out HI.out hkd).1
            obtain ⟨CC9, LL9, f1, f2, f3⟩ := Flushed9.way HI1.out HQ1.out HK.out HI.out HES1.out hkd
            have HF1 := Lib.hid f1
            have HF2 := Lib.hid f2
            have HF3 := Lib.hid f3
            have hop := sflush9 HM1.out HI1.out (by have := HT3.out; have := NQ.out; omega) HQ1.out.short HT.out k i (4 + (q : Int) % 2)
            have I6 := Lib.hid (HI1.out.flushM k i (4 + (q : Int) % 2))
            rw [hfl] at hop
            have HOP := Lib.hid hop
            clear hop hfl f1 f2 f3 hkd
            go_wp2_with fail
            refine HOP.out.mono ?_
            rintro e w6 ⟨rfl, m6⟩
            obtain ⟨F6, hm6, hc6, hk6⟩ := MTS.go HM1.out HC1.out.1 HC1.out.2 m6
            have HM6 := Lib.hid (show MS W w6 c sy F6 (flushM c S1 k i (4 + (q : Int) % 2)).1 from hm6)
            have HC6 := Lib.hid (show Chg F w0 w6 ∧ ∀ k ∈ F6, k ∈ F ∨ w0.heap.size ≤ k from ⟨hc6, hk6⟩)
            have rc6 := hc6.keep RC.out NB1.out
            have rx6 := hc6.keep RX.out NB2.out
            clear m6 hm6 hc6 hk6
            have oc6 := old rc6
            have ox6 := old rx6
            clear rc1 rx1 oc1 ox1 HOP
            go_wp2_with fail
            refine (settle_any HM6.out I6.out (by have := NQ.out; have := HT3.out; omega) H12.out HT.out HF1.out HF2.out).mono ?_
            rintro e w7 ⟨rfl, S7, m7, i7, p7⟩
            obtain ⟨F7, hm7, hc7, hk7⟩ := MTS.go HM6.out HC6.out.1 HC6.out.2 m7
            have HM7 := Lib.hid (show MS W w7 c sy F7 S7 from hm7)
            have HC7 := Lib.hid (show Chg F w0 w7 ∧ ∀ k ∈ F7, k ∈ F ∨ w0.heap.size ≤ k from ⟨hc7, hk7⟩)
            have rc7 := hc7.keep RC.out NB1.out
            have rx7 := hc7.keep RX.out NB2.out
            clear m7 hm7 hc7 hk7
            have oc7 := old rc7
            have ox7 := old rx7
            have I7 := Lib.hid i7
            have HE7 := Lib.hid (HF3.out S7 _ i7 p7)
            clear rc6 rx6 oc6 ox6 i7 p7
            go_wp2_with fail
            refine (mmemory_ok HM7.out).mono ?_
            rintro e w8 ⟨g8, cap8, r8, rfl, hg8, hn8, hcap8, cw8⟩
            have HM8 := Lib.hid (show MS W w8 c sy F7 S7 from Mem.keep HM7.out cw8)
            have rc8 := cw8.keep rc7 List.not_mem_nil
            have rx8 := cw8.keep rx7 List.not_mem_nil
            have hX := I7.out.lX
            have hcell := bk_cell (ln_cell hX HI.out HD.out) r8
            rw [show ln S7.X i = cur5 i from HE7.out.2.2, HCV.out] at hcell
            obtain ⟨X, hXX⟩ : ∃ X, over S7.xs S7.es = X := ⟨_, rfl⟩
            have hcell' : (bk X r8)[i * 8 + d]? = some (.int .u64 x.v) := by rw [← hXX]; exact hcell
            rw [hXX] at hg8
            have hb8 : X.length = c.li * 8 := by rw [← hXX]; exact hX
            clear hcell hX hXX rc7 rx7 oc7 ox7 cw8 hn8
            have oc8 := old rc8
            have ox8 := old rx8
            have og8 := old hg8
            have q1 : (0 : Int) ≤ (i : Int) := by omega
            have q2 : (i : Int) < (c.li : Int) := by have := HI.out; omega
            have q3 : (0 : Int) ≤ (d : Int) := by omega
            have q4 : (d : Int) < 8 := by have := HD.out; omega
            have tv : (x.v != x.v) = false := by simp
            have tl : ((c.li : Int) != (c.li : Int)) = false := by simp
            have HCF := Lib.hid rc8
            have HF8 := Lib.hid (show ∀ b ∈ F7, bc < b from fun b hb => by
              rcases HC7.out.2 b hb with h1 | h1
              · exact HF.out b h1
              · have := LTX.out; have := SZ0.out; omega)
            go_wp2_with fail
            go_quiet (fail)
            go_wp2_with fail
            go_roundw
            case measure => have := HQL.out; simp [intOf]; omega
            case rel => exact ⟨q + 1, F7, S7, cur5, by have := HQL.out; omega, by go_num, Mem.keep HM8.out ((Chg.refl [] w8).drewN _), I7.out.mono (by have := HT3.out; omega), HE7.out.1, HE7.out.2.1, HF8.out, ((Chg.refl [] w8).drewN _).keep HCF.out List.not_mem_nil⟩
    · have tq : decide (q < N) = false := decide_eq_false hlt
      have HCW := Lib.hid (Mem.chg HM.out)
      go_wp2_with fail
      refine (mwakes _ (HT.out.keep0 HCW.out)).mono ?_
      rintro e w5 ⟨rfl, cw5⟩
      go_wp2_with fail
      go_ret
      exact ⟨rfl, HCW.out.trans cw5⟩
theorem mMesiHands_any (c0 c1 c2 c3 c4 c5 c6 : Int) (A : Option Addr) (N cN : Nat) (xs : List Value) (W : World) (hT : Tabs W) (hA : Sl W 5 A N xs) (hN : N ≤ maxLen) (hk : ∀ i, i < N → AreKd W kMst ((xs.drop (i * 5)).take 5)) : Calls Tryz.prog 9 #[.agg #[.int .i64 c0, .int .i64 c1, .int .i64 c2, .int .i64 c3, .int .i64 c4, .int .i64 c5, .int .i64 c6], .slice A N cN] W fun e w' => e = .returned (.bool true) ∧ Chg [] W w' := by
  cases hg : goodB c0 c1 c2 c3 c4 c5 c6
  · exact mMesiHands_bad c0 c1 c2 c3 c4 c5 c6 A N cN xs W hT hA hN hk hg
  · obtain ⟨c, hc, rfl, rfl, rfl, rfl, rfl, rfl, rfl⟩ := cg_of hg
    by_cases h12 : c.li ≤ 12
    · by_cases hn : N ≤ 12
      · exact mMesiHands_good c hc A N cN xs W hT hA hk h12 hn
      · exact mMesiHands_big c hc A N cN W hT hN (.inr (by omega))
    · exact mMesiHands_big c hc A N cN W hT hN (.inl (by omega))
end Go.Proofs.YtadeoflkppiflaaGreatDoor
end
