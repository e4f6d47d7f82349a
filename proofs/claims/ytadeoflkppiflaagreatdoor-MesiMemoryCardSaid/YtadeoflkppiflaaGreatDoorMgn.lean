/- Mgn: walked. No condition. -/
import Derived.Test.YtadeoflkppiflaaGreatDoorMgm
import Derived.BigQuiet
import Derived.Deep.RegionWith
import Derived.Deep.RegionHeld3
import Derived.Deep.QuietTactic
import Derived.Deep.Cut
import Derived.Deep.CutBlock
import Derived.Deep.CutRange
import Derived.Deep.DeepCutAuto
namespace Go.Proofs.YtadeoflkppiflaaGreatDoor
open Go.RowKit
set_option linter.unusedVariables false
set_option maxHeartbeats 1000000
set_option maxRecDepth 100000
attribute [local go_sem ↓] append_appS copy_copS clear_clrS make_mkS cell_row frozen_row loadLine storeLine loadSlot storeSlot heap_drew heap_drewN heap_alloc heap_past heap_setCell heap_putRow vs_get slc_st slc_li slc_us slice_slS loadMsg storeMsg loadHas storeHas msc_kd msc_li msc_di msc_ke
attribute [local go_sem] rowCell_some rowFrozen_some rowHas_some rowIn_some rowPart_full rowPart_lit rowPut_full rowPut_lit rowSet_some size_putRow vs_size vs_one wideLine wideSlot run_loadS run_storeS run_appS run_copS run_clrS run_mkS loadW_at storeW_at fit_all fit_le one_int one_bool one_pointer one_slice allOne_list putRow_new ne_size1 ne_size2 ne_size3 ne_size4 zero8_length lines_nil line_eq lit8 slc_size slc_one slc_part slc_in fold_slt fold_slc slc_set_us wideMsg wideHas run_slS msc_size msc_one msc_part msc_in fold_msc msc_putDi msc_putKe msc_putX msc_has ms4_lit
attribute [local simp ↓] heap_drew heap_drewN heap_alloc heap_past heap_setCell heap_putRow
attribute [local simp] rowCell_some rowFrozen_some rowHas_some rowIn_some rowPart_full rowPart_lit rowPut_full rowPut_lit rowSet_some size_putRow vs_size fit_all putRow_new ne_size1 ne_size2 ne_size3 ne_size4 zero8_length slc_size msc_size msc_putDi msc_putKe msc_putX msc_has fit_le
attribute [local go_sem ↓] ec_he ec_di ec_ow ec_sh ec_bu ec_by ec_wa sc_to
attribute [local go_sem] mi_and mi_or mi_not mi_beq0 mi_bne0 ec_size ec_one ec_part ec_in ec_has ec_setDi ec_setOw ec_setSh ec_setBu ec_setBy ec_setWa ec_setSh0 ec_setWa0 ec_putM sc_size sc_one sc_part sc_in
attribute [local simp] ec_size sc_size ec_setDi ec_setOw ec_setSh ec_setBu ec_setBy ec_setWa ec_setSh0 ec_setWa0 ec_putM
attribute [local go_sem ↓] loadEn storeEn loadSd storeSd en_z0
attribute [local go_sem] wideEn wideSd fold_sc size11 putRow_newB putRow_newC ms5_lit
attribute [local simp] en_z0 putRow_newB putRow_newC fit_le ec_has



attribute [local go_sem ↓] mlitZ zenc_po zenc_en zenc_q
attribute [local simp] mlitZ

attribute [local go_sem ↓] mst_z0 storeMst loadMst mstc_0 mstc_1 mstc_2 mstc_3 mstc_4 loadCg cg_li cg_vo cg_qu cg_co0
attribute [local simp] mst_z0 mstc_sizeN cg_sizeN
attribute [local go_sem] fold_mst wideMst mstc_sizeN mstc_one mstc_part wideCg cg_sizeN cg_one cg_part
theorem mMesiMemory_long (c0 c1 c2 c3 c4 c5 c6 : Int) (B : Option Addr) (M cM : Nat) (zs : List Int) (A : Option Addr) (N cN : Nat) (xs : List Value) (W : World) (hT : Tabs W) (hB : Sl W 8 B M (zs.map (Value.int .u64))) (hM : M ≤ maxLen) (hA : Sl W 5 A N xs) (hN : N ≤ maxLen) (hk : ∀ i, i < N → AreKd W kMst ((xs.drop (i * 5)).take 5)) (hl : 400 < N) : Calls Tryz.prog 7 #[.agg #[.int .i64 c0, .int .i64 c1, .int .i64 c2, .int .i64 c3, .int .i64 c4, .int .i64 c5, .int .i64 c6], .slice B M cM, .slice A N cN] W fun e w' => e = .returned (.bool true) ∧ Chg [] W w' := by
  unfold maxLen at hN
  have t0 : decide (400 < N) = true := by simpa using hl
  have t1 : decide ((400 : Int) < (N : Int)) = true := by simp; omega
  have HT := Lib.hid hT
  clear hT hA hk hl hB hM
  go_enter Tryz.func7, Tryz.ntmps7
  try dsimp only [List.append]
  go_wp2_with (first | (go_at_call 11; refine (mwakes _ (HT.out.keep0 (by (repeat' (first | with_reducible exact Chg.refl _ _ | with_reducible assumption | with_reducible refine Chg.drew ?_ | with_reducible refine Chg.drewN ?_ _ | with_reducible refine Chg.alloc ?_ _ | with_reducible refine Chg.putRow ?_ _ _ _ (.inr ?_) | with_reducible refine Chg.setCell ?_ _ _ _ (.inr ?_)  | (show _ ≤ _; first | exact Nat.le_refl _ | omega | (simp; done))))))).mono ?_; rintro e w2 ⟨rfl, cw2⟩))
  go_ret
  exact ⟨rfl, ((Chg.refl [] W).alloc _).trans cw2⟩
theorem mMesiMemory_bad (c0 c1 c2 c3 c4 c5 c6 : Int) (B : Option Addr) (M cM : Nat) (zs : List Int) (A : Option Addr) (N cN : Nat) (xs : List Value) (W : World) (hT : Tabs W) (hB : Sl W 8 B M (zs.map (Value.int .u64))) (hM : M ≤ maxLen) (hA : Sl W 5 A N xs) (hN : N ≤ maxLen) (hk : ∀ i, i < N → AreKd W kMst ((xs.drop (i * 5)).take 5)) (hl : ¬ 400 < N) (hg : goodB c0 c1 c2 c3 c4 c5 c6 = false) : Calls Tryz.prog 7 #[.agg #[.int .i64 c0, .int .i64 c1, .int .i64 c2, .int .i64 c3, .int .i64 c4, .int .i64 c5, .int .i64 c6], .slice B M cM, .slice A N cN] W fun e w' => e = .returned (.bool true) ∧ Chg [] W w' := by
  unfold maxLen at hN
  have t0 : decide (400 < N) = false := by simpa using hl
  have t1 : decide ((400 : Int) < (N : Int)) = false := by simp; omega
  have HT := Lib.hid hT
  have HG := Lib.hid (fun w => mgood_false c0 c1 c2 c3 c4 c5 c6 w hg)
  clear hT hA hk hl hg hB hM
  go_enter Tryz.func7, Tryz.ntmps7
  try dsimp only [List.append]
  go_wp2_with (first | (go_at_call 17; refine (HG.out _).mono ?_; rintro e w1 ⟨rfl, cw1⟩))
  have C1 := Lib.hid (((Chg.refl [] W).alloc (.cells #[.int .i64 c0, .int .i64 c1, .int .i64 c2, .int .i64 c3, .int .i64 c4, .int .i64 c5, .int .i64 c6] 23)).trans cw1)
  clear cw1
  go_wp2_with fail
  refine (mwakes _ (HT.out.keep0 C1.out)).mono ?_
  rintro e w2 ⟨rfl, cw2⟩
  go_wp2_with fail
  go_ret
  exact ⟨rfl, C1.out.trans cw2⟩
theorem mMesiMemory_size (c : Cg) (hc : c.Ok) (B : Option Addr) (M cM : Nat) (A : Option Addr) (N cN : Nat) (W : World) (hT : Tabs W) (hN : N ≤ maxLen) (hM : M ≤ maxLen) (hl : ¬ 400 < N) (hm : M ≠ c.li) : Calls Tryz.prog 7 #[.agg c.cells, .slice B M cM, .slice A N cN] W fun e w' => e = .returned (.bool true) ∧ Chg [] W w' := by
  unfold maxLen at hN hM
  have t0 : decide (400 < N) = false := by simpa using hl
  have t1 : decide ((400 : Int) < (N : Int)) = false := decide_eq_false (by omega)
  have t2 : ((M : Int) != (c.li : Int)) = true := by simp; omega
  have HT := Lib.hid hT
  have HG := Lib.hid (fun w => mgood_true c hc w)
  clear hT hl hc hm
  go_enter Tryz.func7, Tryz.ntmps7
  try dsimp only [List.append]
  go_wp2_with fail
  refine (HG.out _).mono ?_
  rintro e w1 ⟨rfl, cw1⟩
  have C1 := Lib.hid (((Chg.refl [] W).alloc (.cells c.cells 23)).trans cw1)
  have r1 := cw1.keep (show (W.alloc (.cells c.cells 23)).heap[W.heap.size]? = some (.cells c.cells 23 (0, 0)) from new_blk _ _) List.not_mem_nil
  have o1 := old r1
  clear cw1
  go_wp2_with fail
  refine (mwakes _ (HT.out.keep0 C1.out)).mono ?_
  rintro e w2 ⟨rfl, cw2⟩
  go_wp2_with fail
  go_ret
  exact ⟨rfl, C1.out.trans cw2⟩
theorem calls_aftM {P : Program} {f : FuncId} {args : Array Value} {N : Nat} {W : World} {x : Aft N W} {v : Value} (hN : N ≤ W.heap.size)
    (h : Calls P f args x.w fun e w' => e = .returned v ∧ Chg [] x.w w') : Calls P f args x.w fun e w'' => e = .returned v ∧ ∃ y : Aft N W, w'' = y.w :=
  calls_aft hN (h.mono fun _ _ ⟨he, hc⟩ => ⟨he, hc.below (Nat.le_refl _) (by simp)⟩)
theorem enE_he (W : World) : (Instr.field 56 (.agg (ec enE)) 0).run Tryz.prog W = .ok (.bool false) W := by kernel_rfl
attribute [local go_sem ↓] enE_he

set_option maxHeartbeats 4000000 in
theorem mMesiMemory_good (c : Cg) (hc : c.Ok) (B : Option Addr) (cM : Nat) (zs : List Int) (A : Option Addr) (N cN : Nat) (xs : List Value) (W : World) (hT : Tabs W) (hB : Sl W 8 B c.li (zs.map (Value.int .u64))) (hA : Sl W 5 A N xs) (hN : N ≤ maxLen) (hk : ∀ i, i < N → AreKd W kMst ((xs.drop (i * 5)).take 5)) (hl : ¬ 400 < N) : Calls Tryz.prog 7 #[.agg c.cells, .slice B c.li cM, .slice A N cN] W fun e w' => e = .returned (.bool true) ∧ Chg [] W w' := by
  have t0 : decide (400 < N) = false := by simpa using hl
  have t1 : decide ((400 : Int) < (N : Int)) = false := decide_eq_false (by omega)
  have t2 : ((c.li : Int) != (c.li : Int)) = false := by simp
  have hN4 : N ≤ 400 := by omega
  have HT := Lib.hid hT
  have HA := Lib.hid hA
  have HB := Lib.hid hB
  have HK := Lib.hid hk
  have HCO := Lib.hid hc
  have HG := Lib.hid (fun w => mgood_true c hc w)
  have g64 : (c.li : Int) ≤ 64 := by have := hc.li64; omega
  have g8 : (c.co : Int) ≤ 8 := by have := hc.co8; omega
  have gvo : (c.vo : Int) ≤ (c.li : Int) := by have := hc.vol; omega
  clear hT hA hk hl hN hc hB
  go_enter Tryz.func7, Tryz.ntmps7
  try dsimp only [List.append]
  go_wp2_with fail
  refine (HG.out _).mono ?_
  rintro e w1 ⟨rfl, cw1⟩
  have C1 := Lib.hid (((Chg.refl [] W).alloc (.cells c.cells 23)).trans cw1)
  have r1 := cw1.keep (show (W.alloc (.cells c.cells 23)).heap[W.heap.size]? = some (.cells c.cells 23 (0, 0)) from new_blk _ _) List.not_mem_nil
  have o1 := old r1
  obtain ⟨gi, ci, ri, wi, hcl0, hgi, hge, hci0⟩ := clone_any w1.drew B c.li cM zs (HB.out.chg C1.out.drew (by simp)) (by omega)
  have hcl : appR Tryz.prog 24 24 #[.slice (some ⟨w1.heap.size, 0, none⟩) 0 0, .slice B c.li cM] (w1.alloc (.cells #[] 36)).drew = .ok (.slice (some ⟨gi, 0, none⟩) c.li ci) wi := hcl0
  have hci := (Chg.refl [] w1).drew.trans hci0
  have HGI := Lib.hid hgi
  have HCI := Lib.hid hci
  have HZL := Lib.hid (show zs.length = c.li * 8 by simpa using HB.out.1)
  have SI := Lib.hid (Sl.of_bk (n := c.li) hgi HZL.out)
  have ri1 := hci.keep r1 List.not_mem_nil
  have HOI := Lib.hid (old ri1).lt
  have rm := ((Chg.refl [] w1).alloc (.cells #[] 36)).drew.keep r1 List.not_mem_nil
  clear cw1 hgi hge hci hci0 hcl0
  go_wp2_with fail
  go_region_held3 (fun w' => w'.heap[W.heap.size]? = some (.cells c.cells 23 (0, 0))) (first | exact r1 | exact ri1 | exact rm | exact hcc.keep ri1 List.not_mem_nil)
    (first
      | (go_at_call 12; refine (mnew_img W _ c HCO.out (C1.out.trans HCI.out) _ ci zs SI.out).mono ?_; rintro e w2 ⟨sy, F, rfl, hm, hcc, hkk⟩))
  all_goals
    have r2 := hcc.keep ri1 List.not_mem_nil
    have M0 := Lib.hid (show MS W w2 c sy F ⟨List.replicate c.co (pt0 c), List.replicate c.li enE, [], forget zs c.vo⟩ from hm)
    have I0 := Lib.hid (Inv.fresh c HCO.out (forget zs c.vo) (by rw [forget_length _ _ (by have := HZL.out; omega)]; exact HZL.out))
    have HF0 := Lib.hid (show ∀ k ∈ F, W.heap.size < k from fun k hk => Nat.lt_of_lt_of_le HOI.out (hkk k hk))
    clear hm hcc hkk r1 o1 ri1 rm hcl
    have o2 := old r2
    go_wp2_with fail
    go_loopw [9] (fun i wr => ∃ (k : Nat) (F : List Nat) (S : Mst) (cur : Nat → List Int), k ≤ N ∧ i = .int .i64 k ∧ MS W wr c sy F S ∧ Inv c k S cur ∧ (∀ b ∈ F, W.heap.size < b) ∧ wr.heap[W.heap.size]? = some (.cells c.cells 23 (0, 0))) (fun i _ => N - (intOf i).toNat)
    case atStart => exact ⟨0, F, _, _, by omega, rfl, M0.out, I0.out, HF0.out, r2⟩
    case round =>
      obtain ⟨k, F, S, cur, hkN, rfl, hm, hI, hF, hcf⟩ := hrel
      have HM := Lib.hid hm
      have HI := Lib.hid hI
      have HF := Lib.hid hF
      clear hm hI hF r2 o2 M0 I0 HF0
      have g0 : (0 : Int) ≤ (k : Int) := by omega
      by_cases hlt : k < N
      · have t4 : decide (k < N) = true := by simpa using hlt
        have g1 : (k : Int) < (N : Int) := by omega
        obtain ⟨ba, oa, rfl⟩ := HA.out.addr (by omega)
        obtain ⟨x, cs, t, f, hb, hi, hp, hv⟩ := mstep_row HA.out hlt (HK.out k hlt)
        have hbr := (Mem.chg HM.out).keep hb (by simp)
        have obr := old hbr
        have NB := Lib.hid (show W.heap.size ∉ F from fun h => Nat.lt_irrefl _ (HF.out _ h))
        have LTC := Lib.hid (old hcf).lt
        have HI1 := Lib.hid (HI.out.step x.kd x.co x.li x.wd x.v)
        have hop := Lib.hid (do_any HM.out HI.out (by omega) HT.out x hv)
        clear hb hv
        go_wp2_with fail
        clear hbr obr
        refine hop.out.mono ?_
        obtain ⟨d, hd⟩ : ∃ d, stepM c S x.kd x.co x.li x.wd x.v = d := ⟨_, rfl⟩
        rw [hd] at HI1 ⊢
        obtain ⟨S', dd⟩ := d
        dsimp only at HI1 ⊢
        clear hd hop
        unfold didV
        rintro e w5 ⟨rfl, m5⟩
        obtain ⟨F5, hm5, cw5, hk5⟩ := m5
        have HM5 := Lib.hid (show MS W w5 c sy F5 S' from hm5)
        have hcf5 := cw5.keep hcf NB.out
        have HF5 := Lib.hid (show ∀ b ∈ F5, W.heap.size < b from fun b hb => by
          rcases hk5 b hb with h1 | h1
          · exact HF.out b h1
          · have h2 := LTC.out; omega)
        clear hm5 cw5 hk5 hcf
        go_wp2_with fail
        go_roundw
        case rel => exact ⟨k + 1, F5, S', _, by omega, by go_num, HM5.out, HI1.out, HF5.out, hcf5⟩
        case measure => simp [intOf]; omega
      · obtain rfl : k = N := by omega
        have t4 : decide (k < k) = false := by simp
        rename World => wr
        have LTC := Lib.hid (old hcf).lt
        have NB := Lib.hid (show W.heap.size ∉ F from fun h => Nat.lt_irrefl _ (HF.out _ h))
        go_wp2_with fail
        refine (mmemory_ok HM.out).mono ?_
        rintro e w3 ⟨g3, cap3, r3, rfl, hg3, hn3, hcap3, cw3⟩
        have HM3 := Lib.hid (show MS W w3 c sy F S from Mem.keep HM.out cw3)
        have hcf3 := cw3.keep hcf List.not_mem_nil
        have NG3 := Lib.hid (show g3 ∉ F from fun h => by have := Mem.old HM.out _ h; omega)
        have HG3 := Lib.hid hg3
        have WG3 := Lib.hid (show W.heap.size < g3 from Nat.lt_of_lt_of_le LTC.out hn3)
        clear hcf hg3 cw3 hn3
        go_wp2_with fail
        refine (yfail HM3.out HI.out).mono ?_
        rintro e w4 ⟨rfl, m4⟩
        obtain ⟨F4, hm4, cw4, hk4⟩ := m4
        have HM4 := Lib.hid (show MS W w4 c sy F4 (failM c S) from hm4)
        have HI4 := Lib.hid HI.out.failM
        have hcf4 := cw4.keep hcf3 NB.out
        have HG4 := Lib.hid (cw4.keep HG3.out NG3.out)
        clear hm4 cw4 hk4 hcf3
        go_wp2_with fail
        refine (mmemory_ok HM4.out).mono ?_
        rintro e w5 ⟨g5, cap5, r5, rfl, hg5, hn5, hcap5, cw5⟩
        have HM5 := Lib.hid (show MS W w5 c sy F4 (failM c S) from Mem.keep HM4.out cw5)
        have hcf5 := cw5.keep hcf4 List.not_mem_nil
        have HG35 := Lib.hid (cw5.keep HG4.out List.not_mem_nil)
        have HG5 := Lib.hid hg5
        have oc5 := old hcf5
        have hw5 := mwaiting_ok HM5.out
        rw [show (failM c S).es = [] from rfl] at hw5
        have HW5 := Lib.hid hw5
        clear hcf4 hg5 cw5 hw5
        go_wp2_with fail
        refine HW5.out.mono ?_
        rintro e w6 ⟨A6, c6, rfl, _, cw6⟩
        rw [show (poss ([] : List Ent)).length = 0 from rfl]
        have HM6 := Lib.hid (show MS W w6 c sy F4 (failM c S) from Mem.keep HM5.out cw6)
        have hcf6 := cw6.keep hcf5 List.not_mem_nil
        have HG36 := Lib.hid (cw6.keep HG35.out List.not_mem_nil)
        have HG56 := Lib.hid (cw6.keep HG5.out List.not_mem_nil)
        have oc6 := old hcf6
        clear cw6 hcf5 oc5
        go_wp2_with fail
        go_loopw [12] (fun i wy => ∃ j : Nat, j ≤ c.li ∧ i = .int .i64 j ∧ Chg [] w6 wy) (fun i _ => c.li - (intOf i).toNat)
        case atStart => exact ⟨0, by omega, rfl, Chg.refl _ _⟩
        case round =>
          obtain ⟨j, hj, rfl, hcj⟩ := hrel
          have HCJ := Lib.hid hcj
          have hcfj := hcj.keep hcf6 List.not_mem_nil
          have ocj := old hcfj
          have gj0 : (0 : Int) ≤ (j : Int) := by omega
          clear hcj
          by_cases hjl : j < c.li
          · have gj1 : (j : Int) < (c.li : Int) := by omega
            have tj : decide (j < c.li) = true := decide_eq_true hjl
            have HJL := Lib.hid hjl
            have HX := Lib.hid (show (over S.xs S.es).length = c.li * 8 from HI.out.lX)
            have HX5 := Lib.hid (show (over (failM c S).xs (failM c S).es).length = c.li * 8 from HI4.out.lX)
            have HXE := Lib.hid (show over (failM c S).xs (failM c S).es = forget (over S.xs S.es) c.vo from rfl)
            obtain ⟨X, hX⟩ : ∃ X, over S.xs S.es = X := ⟨_, rfl⟩
            obtain ⟨X5, hX5⟩ : ∃ X5, over (failM c S).xs (failM c S).es = X5 := ⟨_, rfl⟩
            have hg3 := HCJ.out.keep HG36.out List.not_mem_nil
            have hg5 := HCJ.out.keep HG56.out List.not_mem_nil
            rw [hX] at hg3 HX HXE
            rw [hX5] at hg5 HX5 HXE
            clear hX hX5
            rename World => wy
            have hM := fun y : Aft wy.heap.size wy => (show Mem W y.w c sy F4 (failM c S).ps (failM c S).en (failM c S).es (failM c S).xs from Mem.keep HM6.out (HCJ.out.trans (Below.chg y.below (Nat.le_refl _))))
            have HMY := Lib.hid hM
            have h1 : ∀ y : Aft wy.heap.size wy, y.w.heap[W.heap.size]? = some (.cells c.cells 23 (0, 0)) := fun y => (y.block ocj.lt).trans hcfj
            have h2 : ∀ y : Aft wy.heap.size wy, y.w.heap[g3]? = some (.cells (bk X r3) 36 (0, 0)) := fun y => (y.block (old hg3).lt).trans hg3
            have h3 : ∀ y : Aft wy.heap.size wy, y.w.heap[g5]? = some (.cells (bk X5 r5) 36 (0, 0)) := fun y => (y.block (old hg5).lt).trans hg5
            have p1 := fun t f => rowIn_bk (xs := X) (fit_line HX.out hjl) r3 t f
            have p2 := fun t f => rowPart_bk (xs := X) (fit_line HX.out hjl) r3 t f
            have p3 := fun t f => rowIn_bk (xs := X5) (fit_line HX5.out hjl) r5 t f
            have p4 := fun t f => rowPart_bk (xs := X5) (fit_line HX5.out hjl) r5 t f
            have q1 : (ln X j).length = 8 := ln_length _ _ (fit_line HX.out hjl)
            have q2 : (ln X5 j).length = 8 := ln_length _ _ (fit_line HX5.out hjl)
            have HQ1 := Lib.hid q1
            have e1 := fun V => line_eq (ln X5 j) [0, 0, 0, 0, 0, 0, 0, 0] q2 rfl V
            have e2 := fun V => line_eq (ln X5 j) (ln X j) q2 q1 V
            have HENT := Lib.hid (show (failM c S).en[j]? = some enE by show (List.replicate c.li enE)[j]? = _; rw [List.getElem?_replicate, if_pos hjl])
            clear hg3 hg5 hM hjl
            by_cases hjv : j < c.vo
            · have u1 : decide (j < c.vo) = true := decide_eq_true hjv
              have u2 : decide (c.vo ≤ j) = false := decide_eq_false (by omega)
              have u3 : (ln X5 j == [0, 0, 0, 0, 0, 0, 0, 0]) = true := by
                rw [HXE.out, ln_forget_lt _ _ _ hjv (by have := HX.out; omega)]; rfl
              clear hjv
              go_wp2_with fail
              refine wp_region_aft wy.heap.size (by kernel_rfl) (by kernel_rfl) ?_
              repeat (go_big_quiet_step (first
                | (go_at_call 20; exact calls_aftM (Nat.le_refl _) (mentry_ok (HMY.out _) j enE HENT.out))))
              refine wpQuiet_nil ?_
              rintro _ ⟨y, rfl⟩
              go_wp2_with fail
              go_roundw
              case rel => exact ⟨j + 1, by omega, by go_num, HCJ.out.trans (Below.chg y.below (Nat.le_refl _))⟩
              case measure => simp [intOf]; omega
            · have u1 : decide (j < c.vo) = false := decide_eq_false hjv
              have u2 : decide (c.vo ≤ j) = true := decide_eq_true (by omega)
              have u3 : (ln X5 j == ln X j) = true := by
                rw [HXE.out, ln_forget_ge _ _ _ (by omega) (by have := HX.out; omega)]; simp
              clear hjv
              go_wp2_with fail
              refine wp_region_aft wy.heap.size (by kernel_rfl) (by kernel_rfl) ?_
              repeat (go_big_quiet_step (first
                | (go_at_call 20; exact calls_aftM (Nat.le_refl _) (mentry_ok (HMY.out _) j enE HENT.out))))
              refine wpQuiet_nil ?_
              rintro _ ⟨y, rfl⟩
              go_wp2_with fail
              go_roundw
              case rel => exact ⟨j + 1, by omega, by go_num, HCJ.out.trans (Below.chg y.below (Nat.le_refl _))⟩
              case measure => simp [intOf]; omega
          · obtain rfl : j = c.li := by omega
            have tj : decide (c.li < c.li) = false := by simp
            go_wp2_with fail
            have HNP := Lib.hid (fun (p : Nat) (hp : p < c.co) => show (failM c S).ps[p]? = some (pt0 c) by show (List.replicate c.co (pt0 c))[p]? = _; rw [List.getElem?_replicate, if_pos hp])
            have HLV := Lib.hid (show live (pt0 c).s.1 = [] by
              unfold live
              rw [List.filter_eq_nil_iff]
              intro x hx
              rw [List.eq_of_mem_replicate (show x ∈ List.replicate (c.se * c.wa) sltZ from hx)]; decide)
            rename World => wz
            have HMZ := Lib.hid (show MS W wz c sy F4 (failM c S) from Mem.keep HM6.out HCJ.out)
            clear HCJ
            go_loopw [13] (fun i wy => ∃ p : Nat, p ≤ c.co ∧ i = .int .i64 p ∧ Chg [] wz wy) (fun i _ => c.co - (intOf i).toNat)
            case atStart => exact ⟨0, by omega, rfl, Chg.refl _ _⟩
            case round =>
              obtain ⟨p, hp, rfl, hcp⟩ := hrel
              have HCP := Lib.hid hcp
              have hcfp := hcp.keep hcfj List.not_mem_nil
              have ocp := old hcfp
              have gp0 : (0 : Int) ≤ (p : Int) := by omega
              clear hcp
              by_cases hpl : p < c.co
              · have gp1 : (p : Int) < (c.co : Int) := by omega
                have tp : decide (p < c.co) = true := decide_eq_true hpl
                rename World => wy
                have HPP := Lib.hid (HNP.out p hpl)
                go_wp2_with fail
                refine (mqueues_ok (Mem.keep HMZ.out HCP.out) p (pt0 c) HPP.out (Nat.zero_le _) (Nat.zero_le _) (Nat.zero_le _)).mono ?_
                rintro e w7 hq
                obtain ⟨A1, n1, A2, n2, A3, n3, rfl, hr⟩ := hq
                have C7 := Lib.hid (show Chg [] wy w7 from hr.2.2.2)
                clear hr
                have z1 : (pt0 c).up.length = 0 := rfl
                have z2 : (pt0 c).an.length = 0 := rfl
                have z3 : (pt0 c).dn.length = 0 := rfl
                rw [z1, z2, z3]
                clear z1 z2 z3
                have hs := mslots_ok (Mem.keep HMZ.out (HCP.out.trans C7.out)) p (pt0 c) HPP.out
                rw [HLV.out] at hs
                have HS := Lib.hid hs
                clear hs
                go_wp2_with fail
                refine HS.out.mono ?_
                rintro e w8 ⟨A4, n4, rfl, _, cw8⟩
                have C8 := Lib.hid cw8
                clear cw8
                go_wp2_with fail
                go_roundw
                case rel =>
                  exact ⟨p + 1, by omega, by go_num, (HCP.out.trans C7.out).trans C8.out⟩
                case measure => simp [intOf]; omega
              · obtain rfl : p = c.co := by omega
                have tp : decide (c.co < c.co) = false := by simp
                go_wp2_with fail
                refine (mwakes _ (HT.out.keep0 ((Mem.chg HMZ.out).trans HCP.out))).mono ?_
                rintro e w8 ⟨rfl, cw8⟩
                go_wp2_with fail
                go_ret
                exact ⟨rfl, ((Mem.chg HMZ.out).trans HCP.out).trans cw8⟩
theorem mMesiMemory_any (c0 c1 c2 c3 c4 c5 c6 : Int) (B : Option Addr) (M cM : Nat) (zs : List Int) (A : Option Addr) (N cN : Nat) (xs : List Value) (W : World) (hT : Tabs W) (hB : Sl W 8 B M (zs.map (Value.int .u64))) (hM : M ≤ maxLen) (hA : Sl W 5 A N xs) (hN : N ≤ maxLen) (hk : ∀ i, i < N → AreKd W kMst ((xs.drop (i * 5)).take 5)) : Calls Tryz.prog 7 #[.agg #[.int .i64 c0, .int .i64 c1, .int .i64 c2, .int .i64 c3, .int .i64 c4, .int .i64 c5, .int .i64 c6], .slice B M cM, .slice A N cN] W fun e w' => e = .returned (.bool true) ∧ Chg [] W w' := by
  by_cases hl : 400 < N
  · exact mMesiMemory_long c0 c1 c2 c3 c4 c5 c6 B M cM zs A N cN xs W hT hB hM hA hN hk hl
  · cases hg : goodB c0 c1 c2 c3 c4 c5 c6
    · exact mMesiMemory_bad c0 c1 c2 c3 c4 c5 c6 B M cM zs A N cN xs W hT hB hM hA hN hk hl hg
    · obtain ⟨c, hc, rfl, rfl, rfl, rfl, rfl, rfl, rfl⟩ := cg_of hg
      by_cases hm : M = c.li
      · subst hm
        exact mMesiMemory_good c hc B cM zs A N cN xs W hT hB hA hN hk hl
      · exact mMesiMemory_size c hc B M cM A N cN W hT hN hM hl hm
end Go.Proofs.YtadeoflkppiflaaGreatDoor
