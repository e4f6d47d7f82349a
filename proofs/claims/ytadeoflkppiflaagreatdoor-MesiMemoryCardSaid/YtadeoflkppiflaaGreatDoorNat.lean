/- Texts of the walk, one behind the other: Mgl. No condition. -/
import Derived.Test.YtadeoflkppiflaaGreatDoorNan
import Derived.Test.YtadeoflkppiflaaGreatDoorNar
import Derived.Test.YtadeoflkppiflaaGreatDoorNas
import Derived.BigQuiet
import Derived.Deep.Cut
import Derived.Deep.CutBlock
import Derived.Deep.CutRange
import Derived.Deep.DeepCutAuto
import Derived.Deep.QuietTactic
import Derived.Deep.RegionHeld3
import Derived.Deep.RegionWith
section
namespace Go.Proofs.YtadeoflkppiflaaGreatDoor
open Go.RowKit
set_option linter.unusedVariables false
set_option maxHeartbeats 1000000
set_option maxRecDepth 100000
attribute [local go_sem ↓] append_appS copy_copS clear_clrS make_mkS cell_row frozen_row loadLine storeLine loadSlot storeSlot heap_drew heap_drewN heap_alloc heap_past heap_setCell heap_putRow vs_get slc_st slc_li slc_us slice_slS loadMsg storeMsg loadHas storeHas msc_kd msc_li msc_di msc_ke
attribute [local go_sem] rowCell_some rowFrozen_some rowHas_some rowIn_some rowPart_full rowPart_lit rowPut_full rowPut_lit rowSet_some size_putRow vs_size vs_one wideLine wideSlot run_loadS run_storeS run_appS run_copS run_clrS run_mkS loadW_at storeW_at fit_all fit_le one_int one_bool one_pointer one_slice allOne_list putRow_new ne_size1 ne_size2 ne_size3 ne_size4 zero8_length lines_nil line_eq lit8 slc_size slc_one slc_part slc_in fold_slt fold_slc slc_set_us wideMsg wideHas run_slS msc_size msc_one msc_part msc_in fold_msc msc_putDi msc_putKe msc_putX msc_has ms4_lit
attribute [local simp ↓] heap_drew heap_drewN heap_alloc heap_past heap_setCell heap_putRow
attribute [local simp] rowCell_some rowFrozen_some rowHas_some rowIn_some rowPart_full rowPart_lit rowPut_full rowPut_lit rowSet_some size_putRow vs_size fit_all putRow_new ne_size1 ne_size2 ne_size3 ne_size4 zero8_length slc_size msc_size msc_putDi msc_putKe msc_putX msc_has fit_le
attribute [local go_sem ↓] ec_he ec_di ec_ow ec_sh ec_bu ec_by ec_wa sc_to
attribute [local go_sem] mi_and mi_or mi_not mi_beq0 mi_bne0 ec_size ec_one ec_part ec_in ec_has ec_setDi ec_setOw ec_setSh ec_setBu ec_setBy ec_setWa ec_setSh0 ec_setWa0 ec_putM sc_size sc_one sc_part sc_in
attribute [local simp] ec_size sc_size ec_setDi ec_setOw ec_setSh ec_setBu ec_setBy ec_setWa ec_setSh0 ec_setWa0 ec_putM
attribute [local go_sem ↓] loadEn storeEn loadSd storeSd en_z0
attribute [local go_sem] wideEn wideSd fold_sc size11 putRow_newB putRow_newC ms5_lit
attribute [local simp] en_z0 putRow_newB putRow_newC fit_le ec_has



attribute [local go_sem ↓] mlitZ zenc_po zenc_en zenc_q
attribute [local simp] mlitZ

attribute [local go_sem ↓] mst_z0 storeMst loadMst mstc_0 mstc_1 mstc_2 mstc_3 mstc_4 loadCg cg_li cg_vo cg_qu cg_co0
attribute [local simp] mst_z0 mstc_sizeN cg_sizeN
attribute [local go_sem] fold_mst wideMst mstc_sizeN mstc_one mstc_part wideCg cg_sizeN cg_one cg_part
theorem mMesiTrue_long (c0 c1 c2 c3 c4 c5 c6 : Int) (A : Option Addr) (N cN : Nat) (xs : List Value) (W : World) (hT : Tabs W) (hA : Sl W 5 A N xs) (hN : N ≤ maxLen) (hk : ∀ i, i < N → AreKd W kMst ((xs.drop (i * 5)).take 5)) (hl : 600 < N) : Calls Tryz.prog 4 #[.agg #[.int .i64 c0, .int .i64 c1, .int .i64 c2, .int .i64 c3, .int .i64 c4, .int .i64 c5, .int .i64 c6], .slice A N cN] W fun e w' => e = .returned (.bool true) ∧ Chg [] W w' := by
  unfold maxLen at hN
  have t0 : decide (600 < N) = true := by simpa using hl
  have t1 : decide ((600 : Int) < (N : Int)) = true := by simp; omega
  have HT := Lib.hid hT
  clear hT hA hk hl
  go_enter Tryz.func4, Tryz.ntmps4
  try dsimp only [List.append]
  go_wp2_with (first | (go_at_call 11; refine (mwakes _ (HT.out.keep0 (by (repeat' (first | with_reducible exact Chg.refl _ _ | with_reducible assumption | with_reducible refine Chg.drew ?_ | with_reducible refine Chg.drewN ?_ _ | with_reducible refine Chg.alloc ?_ _ | with_reducible refine Chg.putRow ?_ _ _ _ (.inr ?_) | with_reducible refine Chg.setCell ?_ _ _ _ (.inr ?_)  | (show _ ≤ _; first | exact Nat.le_refl _ | omega | (simp; done))))))).mono ?_; rintro e w2 ⟨rfl, cw2⟩))
  go_ret
  exact ⟨rfl, ((Chg.refl [] W).alloc _).trans cw2⟩
theorem mMesiTrue_bad (c0 c1 c2 c3 c4 c5 c6 : Int) (A : Option Addr) (N cN : Nat) (xs : List Value) (W : World) (hT : Tabs W) (hA : Sl W 5 A N xs) (hN : N ≤ maxLen) (hk : ∀ i, i < N → AreKd W kMst ((xs.drop (i * 5)).take 5)) (hl : ¬ 600 < N) (hg : goodB c0 c1 c2 c3 c4 c5 c6 = false) : Calls Tryz.prog 4 #[.agg #[.int .i64 c0, .int .i64 c1, .int .i64 c2, .int .i64 c3, .int .i64 c4, .int .i64 c5, .int .i64 c6], .slice A N cN] W fun e w' => e = .returned (.bool true) ∧ Chg [] W w' := by
  unfold maxLen at hN
  have t0 : decide (600 < N) = false := by simpa using hl
  have t1 : decide ((600 : Int) < (N : Int)) = false := by simp; omega
  have HT := Lib.hid hT
  have HG := Lib.hid (fun w => mgood_false c0 c1 c2 c3 c4 c5 c6 w hg)
  clear hT hA hk hl hg
  go_enter Tryz.func4, Tryz.ntmps4
  try dsimp only [List.append]
  go_wp2_with (first | (go_at_call 17; refine (HG.out _).mono ?_; rintro e w1 ⟨rfl, cw1⟩))
  have C1 := Lib.hid (((Chg.refl [] W).alloc (.cells #[.int .i64 c0, .int .i64 c1, .int .i64 c2, .int .i64 c3, .int .i64 c4, .int .i64 c5, .int .i64 c6] 23)).trans cw1)
  clear cw1
  go_wp2_with fail
  refine (mwakes _ (HT.out.keep0 C1.out)).mono ?_
  rintro e w2 ⟨rfl, cw2⟩
  go_wp2_with fail
  go_ret
  exact ⟨rfl, C1.out.trans cw2⟩

theorem stepM_0 (c : Cg) (S : Mst) (co li wd v : Int) : stepM c S 0 co li wd v = loadM c S co li wd := rfl
theorem stepM_1 (c : Cg) (S : Mst) (co li wd v : Int) : stepM c S 1 co li wd v = storeM c S co li wd v := rfl
theorem stepM_11 (c : Cg) (S : Mst) (co li wd v : Int) : stepM c S 11 co li wd v = (failM c S, did0) := rfl
theorem curM_other (c : Cg) (S : Mst) (kd co li wd v : Int) (cur : Nat → List Int) (h : kd ≠ 11) (h1 : (stepM c S kd co li wd v).2.hit = false ∨ kd ≠ 1) : curM c S kd co li wd v cur = cur := by
  unfold curM
  by_cases k1 : kd = 1
  · subst k1
    rw [stepM_1] at h1
    rw [if_pos rfl, if_neg (by rcases h1 with h1 | h1; simp [h1]; exact absurd rfl h1)]
  · rw [if_neg k1, if_neg h]
set_option maxHeartbeats 4000000 in
theorem mMesiTrue_good (c : Cg) (hc : c.Ok) (A : Option Addr) (N cN : Nat) (xs : List Value) (W : World) (hT : Tabs W) (hA : Sl W 5 A N xs) (hN : N ≤ maxLen) (hk : ∀ i, i < N → AreKd W kMst ((xs.drop (i * 5)).take 5)) (hl : ¬ 600 < N) : Calls Tryz.prog 4 #[.agg c.cells, .slice A N cN] W fun e w' => e = .returned (.bool true) ∧ Chg [] W w' := by
  have t0 : decide (600 < N) = false := by simpa using hl
  have t1 : decide ((600 : Int) < (N : Int)) = false := by simp; omega
  have hN4 : N ≤ 600 := by omega
  have HT := Lib.hid hT
  have HA := Lib.hid hA
  have HK := Lib.hid hk
  have HCO := Lib.hid hc
  have HG := Lib.hid (fun w => mgood_true c hc w)
  have g64 : (c.li : Int) ≤ 64 := by have := hc.li64; omega
  have gvo : (c.vo : Int) ≤ (c.li : Int) := by have := hc.vol; omega
  have hmk := fun W => run_make_lines W c.li (by omega)
  clear hT hA hk hl hN hc
  go_enter Tryz.func4, Tryz.ntmps4
  try dsimp only [List.append]
  go_wp2_with fail
  refine (HG.out _).mono ?_
  rintro e w1 ⟨rfl, cw1⟩
  have C1 := Lib.hid (((Chg.refl [] W).alloc (.cells c.cells 23)).trans cw1)
  have r1 := cw1.keep (show (W.alloc (.cells c.cells 23)).heap[W.heap.size]? = some (.cells c.cells 23 (0, 0)) from new_blk _ _) List.not_mem_nil
  have o1 := old r1
  clear cw1
  go_wp2_with fail
  refine (mnew_none W _ c HCO.out C1.out none 0).mono ?_
  rintro e w2 ⟨sy, F, rfl, hm, hcc, hkk⟩
  have r2 := hcc.keep r1 List.not_mem_nil
  have M0 := Lib.hid (show MS W w2 c sy F ⟨List.replicate c.co (pt0 c), List.replicate c.li enE, [], List.replicate (c.li * 8) 0⟩ from hm)
  have I0 := Lib.hid (Inv.fresh c HCO.out (List.replicate (c.li * 8) 0) (by simp))
  have HF0 := Lib.hid (show ∀ k ∈ F, W.heap.size < k from fun k hk => Nat.lt_of_lt_of_le o1.lt (hkk k hk))
  clear hm hcc hkk r1 o1
  have o2 := old r2
  go_wp2_with fail
  have CM := Lib.hid ((Chg.refl [] w2).alloc (.cells (bk (List.replicate (c.li * 8) 0) []) 36))
  have r3 := CM.out.keep r2 List.not_mem_nil
  have hg3 : (w2.alloc (.cells (bk (List.replicate (c.li * 8) 0) []) 36)).heap[w2.heap.size]? = some (.cells (bk (List.replicate (c.li * 8) 0) []) 36 (0, 0)) := new_blk _ _
  have M3 := Lib.hid (show MS W (w2.alloc (.cells (bk (List.replicate (c.li * 8) 0) []) 36)) c sy F _ from Mem.keep M0.out CM.out)
  have NG0 := Lib.hid (show w2.heap.size ∉ F ∧ W.heap.size < w2.heap.size from ⟨fun h => Nat.lt_irrefl _ (Mem.old M0.out _ h), o2.lt⟩)
  clear r2 o2 M0 hmk
  generalize w2.alloc (.cells (bk (List.replicate (c.li * 8) 0) []) 36) = w3 at r3 hg3 M3 CM ⊢
  generalize w2.heap.size = gb0 at hg3 NG0 ⊢
  have o3 := old r3
  go_loopw [8, 7] (fun i s7 wr => ∃ (k : Nat) (F : List Nat) (S : Mst) (cur : Nat → List Int) (gb cap : Nat) (ys : List Int) (r : List Value), k ≤ N ∧ i = .int .i64 k ∧ s7 = .slice (some ⟨gb, 0, none⟩) c.li cap ∧ MS W wr c sy F S ∧ Inv c k S cur ∧ (∀ b ∈ F, W.heap.size < b) ∧ wr.heap[W.heap.size]? = some (.cells c.cells 23 (0, 0)) ∧ wr.heap[gb]? = some (.cells (bk ys r) 36 (0, 0)) ∧ (gb ∉ F ∧ W.heap.size < gb) ∧ ys.length = c.li * 8 ∧ ∀ j, j < c.li → ln ys j = cur j) (fun i _ _ => N - (intOf i).toNat)
  case atStart => exact ⟨0, F, _, _, gb0, c.li, _, [], by omega, rfl, rfl, M3.out, I0.out, HF0.out, r3, hg3, NG0.out, by simp, fun j hj => rfl⟩
  case round =>
    obtain ⟨k, F, S, cur, gb, cap, ys, r, hkN, rfl, rfl, hm, hI, hF, hcf, hgb, hng, hyl, hyc⟩ := hrel
    have HM := Lib.hid hm
    have HI := Lib.hid hI
    have HF := Lib.hid hF
    have HYL := Lib.hid hyl
    have HYC := Lib.hid hyc
    have NG := Lib.hid hng.1
    have GW := Lib.hid hng.2
    clear hm hI hF r3 o3 M3 I0 HF0 hyl hyc hng hg3
    have g0 : (0 : Int) ≤ (k : Int) := by omega
    by_cases hlt : k < N
    · have t2 : decide (k < N) = true := by simpa using hlt
      have g1 : (k : Int) < (N : Int) := by omega
      obtain ⟨ba, oa, rfl⟩ := HA.out.addr (by omega)
      obtain ⟨x, cs, t, f, hb, hi, hp, hv⟩ := mstep_row HA.out hlt (HK.out k hlt)
      have HV := Lib.hid hv
      have hbr := (Mem.chg HM.out).keep hb (by simp)
      have obr := old hbr
      have hx1 : (wr.alloc (.cells (mstc x) 42)).heap[wr.heap.size]? = some (.cells (mstc x) 42 (0, 0)) := new_blk _ _
      have CX := Lib.hid ((Chg.refl [] wr).alloc (.cells (mstc x) 42))
      have HM1 := Lib.hid (show MS W (wr.alloc (.cells (mstc x) 42)) c sy F S from Mem.keep HM.out CX.out)
      have hcf1 := CX.out.keep hcf List.not_mem_nil
      have hgb1 := CX.out.keep hgb List.not_mem_nil
      have NB := Lib.hid (show W.heap.size ∉ F from fun h => Nat.lt_irrefl _ (HF.out _ h))
      have NX := Lib.hid (show wr.heap.size ∉ F from fun h => Nat.lt_irrefl _ (Mem.old HM.out _ h))
      have WB := Lib.hid (show W.heap.size ≤ wr.heap.size from (Mem.chg HM.out).size)
      have OC := Lib.hid (show W.heap.size < wr.heap.size from (old hcf).lt)
      have OG := Lib.hid (show gb < wr.heap.size from (old hgb).lt)
      have HI1 := Lib.hid (HI.out.step x.kd x.co x.li x.wd x.v)
      clear hb hv
      by_cases k11 : x.kd = 11
      · have tk : (x.kd == 11) = true := by simp [k11]
        have HK11 := Lib.hid k11
        have tgt : decide ((1 : Int) < x.kd) = true := by rw [k11]; rfl
        clear k11
        go_wp2_with fail
        clear hbr obr hcf hgb
        generalize hbx : wr.heap.size = bx at hx1 NX WB OC OG ⊢
        have BX := Lib.hid hbx
        generalize wr.alloc (.cells (mstc x) 42) = w3 at hx1 HM1 CX hcf1 hgb1 ⊢
        have OX := Lib.hid (old hx1).lt
        clear hbx hgb1
        refine (mmemory_ok HM1.out).mono ?_
        rintro e w4 ⟨g4, cap4, r4, rfl, hg4, hn4, hcap, cw4⟩
        have HM4 := Lib.hid (show MS W w4 c sy F S from Mem.keep HM1.out cw4)
        have hx4 := cw4.keep hx1 List.not_mem_nil
        have hcf4 := cw4.keep hcf1 List.not_mem_nil
        have C4 := Lib.hid (CX.out.trans cw4)
        have NG4 := Lib.hid (show g4 ∉ F from fun h => by have := Mem.old HM1.out _ h; omega)
        have NX4 := Lib.hid (show bx ≠ g4 by have := OX.out; omega)
        have NW4 := Lib.hid (show W.heap.size < g4 by have := OX.out; have := WB.out; omega)
        have HL4 := Lib.hid (show (over S.xs S.es).length = c.li * 8 from HI.out.lX)
        obtain ⟨X, hX⟩ : ∃ X, over S.xs S.es = X := ⟨_, rfl⟩
        rw [hX] at hg4 HL4
        have HX := Lib.hid hX
        have tl : ((c.li : Int) != (c.li : Int)) = false := by simp
        have ox4 := old hx4
        have oc4 := old hcf4
        have og4 := old hg4
        have N1 : bx ≠ g4 := NX4.out
        have N2 : W.heap.size ≠ g4 := Nat.ne_of_lt NW4.out
        clear hx1 hcf1 cw4 hX NG
        go_wp2_with fail
        go_loopw [10] (fun i wy => ∃ q : Nat, q ≤ c.vo ∧ i = .int .i64 q ∧ Chg [g4] w4 wy ∧ wy.heap[g4]? = some (.cells (bk (forget X q) r4) 36 (0, 0))) (fun i _ => c.vo - (intOf i).toNat)
        case atStart => exact ⟨0, by omega, rfl, Chg.refl _ _, by rw [forget_zero]; exact hg4⟩
        case round =>
          obtain ⟨q, hq, rfl, hc, hb⟩ := hrel
          have hc5 := hc.keep hcf4 (by simpa using N2)
          have hx5 := hc.keep hx4 (by simpa using N1)
          have HC := Lib.hid hc
          have hbg := old hb
          clear hc
          by_cases hqv : q < c.vo
          · have hx := HL4.out
            have hf : Fit (q * 8) 8 (forget X q).length := by rw [forget_length _ _ (by omega), hx]; unfold Fit; omega
            have hi2 : (q : Int) < (c.li : Int) := by omega
            have hi0 : (0 : Int) ≤ (q : Int) := by omega
            have tq : decide (q < c.vo) = true := by simpa using hqv
            have rp := rowPut_bk (xs := forget X q) (l := zero8) (i := q) hf r4 36 (0, 0)
            have hs := Lib.hid (forget_succ X q (by omega))
            have ri := rowHas_bk (xs := forget X q) (i := q) hf r4 36
            clear hx hf
            go_wp2_with fail
            go_roundw
            case rel => exact ⟨q + 1, by omega, by go_num, HC.out.putRow _ _ _ (.inl (by simp)), by rw [← hs.out]; simp [*]; exact rp⟩
            case measure => simp [intOf]; omega
          · obtain rfl : q = c.vo := by omega
            have tq : decide (c.vo < c.vo) = false := by simp
            rename World => w8
            have HM8 := Lib.hid (show MS W w8 c sy F S from Mem.keepL HM4.out HC.out (by simpa using NG4.out) (by have h1 := NW4.out; simp; omega))
            have C8 := Lib.hid HC.out.size
            clear hx4 hcf4 hg4 ox4 oc4 og4
            have ox5 := old hx5
            have oc5 := old hc5
            have NG := Lib.hid NG4.out
            have LTC := Lib.hid oc5.lt
            have LTG := Lib.hid hbg.lt
            clear ox5 hbg
            go_wp2_with fail
            have hop := do_any HM8.out HI.out (by omega) HT.out x HV.out
            unfold didV at hop
            obtain ⟨d, hd⟩ : ∃ d, stepM c S x.kd x.co x.li x.wd x.v = d := ⟨_, rfl⟩
            have HDS := Lib.hid hd
            rw [hd] at hop HI1
            obtain ⟨S', dv, dh, dm, de⟩ := d
            dsimp only at hop HI1
            clear hd
            refine hop.mono ?_
            rintro e w5 ⟨rfl, m5⟩
            obtain ⟨F5, hm5, cw5, hk5⟩ := m5
            have HM5 := Lib.hid (show MS W w5 c sy F5 S' from hm5)
            have hx6 := cw5.keep hx5 NX.out
            have hcf5 := cw5.keep hc5 NB.out
            have hgb5 := cw5.keep hb NG.out
            have HF5 := Lib.hid (show ∀ b ∈ F5, W.heap.size < b from fun b hb => by
              rcases hk5 b hb with h1 | h1
              · exact HF.out b h1
              · have h2 := LTC.out; omega)
            have NG5 := Lib.hid (show g4 ∉ F5 from fun hb => by
              rcases hk5 _ hb with h1 | h1
              · exact NG.out h1
              · have h2 := LTG.out; omega)
            have C5 := Lib.hid cw5
            clear hop hm5 cw5 hk5 hx5 hc5 hb oc5
            have ox6 := old hx6
            have oc5 := old hcf5
            have og5 := old hgb5
            have HH := Lib.hid (show dh = false by have h1 := HDS.out; rw [HK11.out, stepM_11] at h1; exact (congrArg (fun p => p.2.hit) h1).symm)
            obtain rfl := HH.out
            go_wp2_with fail
            go_roundw
            case rel =>
              refine ⟨k + 1, F5, S', _, g4, _, forget X c.vo, r4, by omega, by go_num, rfl, Mem.keep HM5.out (by (repeat' (first | with_reducible exact Chg.refl _ _ | with_reducible assumption | with_reducible refine Chg.drew ?_ | with_reducible refine Chg.drewN ?_ _ | with_reducible refine Chg.alloc ?_ _ | with_reducible refine Chg.putRow ?_ _ _ _ (.inr ?_) | with_reducible refine Chg.setCell ?_ _ _ _ (.inr ?_)  | (show _ ≤ _; first | exact Nat.le_refl _ | omega | (simp; done))))), HI1.out, HF5.out, by simp [hcf5], by simp [hgb5], ⟨NG5.out, NW4.out⟩, by rw [forget_length _ _ (by have := HL4.out; omega)]; exact HL4.out, fun j hj => ?_⟩
              unfold curM
              rw [if_neg (by rw [HK11.out]; decide), if_pos HK11.out, ← HX.out]
              rfl
            case measure => simp [intOf]; omega
      have tk : (x.kd == 11) = false := by simpa using k11
      have HK11 := Lib.hid k11
      clear k11
      go_wp2_with fail
      clear hbr obr hcf hgb
      generalize hbx : wr.heap.size = bx at hx1 NX WB OC OG ⊢
      have BX := Lib.hid hbx
      generalize wr.alloc (.cells (mstc x) 42) = w3 at hx1 HM1 CX hcf1 hgb1 ⊢
      clear hbx
      have LTC := Lib.hid (old hcf1).lt
      have LTG := Lib.hid (old hgb1).lt
      have hop := do_any HM1.out HI.out (by omega) HT.out x HV.out
      unfold didV at hop
      obtain ⟨d, hd⟩ : ∃ d, stepM c S x.kd x.co x.li x.wd x.v = d := ⟨_, rfl⟩
      have HDS := Lib.hid hd
      rw [hd] at hop HI1
      obtain ⟨S', dv, dh, dm, de⟩ := d
      dsimp only at hop HI1
      clear hd
      refine hop.mono ?_
      rintro e w5 ⟨rfl, m5⟩
      obtain ⟨F5, hm5, cw5, hk5⟩ := m5
      have HM5 := Lib.hid (show MS W w5 c sy F5 S' from hm5)
      have hx5 := cw5.keep hx1 NX.out
      have hcf5 := cw5.keep hcf1 NB.out
      have hgb5 := cw5.keep hgb1 NG.out
      have HF5 := Lib.hid (show ∀ b ∈ F5, W.heap.size < b from fun b hb => by
        rcases hk5 b hb with h1 | h1
        · exact HF.out b h1
        · have h2 := LTC.out; omega)
      have NG5 := Lib.hid (show gb ∉ F5 from fun hb => by
        rcases hk5 _ hb with h1 | h1
        · exact NG.out h1
        · have h2 := LTG.out; omega)
      have C5 := Lib.hid cw5
      clear hop hm5 cw5 hk5 hx1 hcf1 hgb1
      have ox5 := old hx5
      have oc5 := old hcf5
      have og5 := old hgb5
      cases hdh : dh
      · subst hdh
        have HCM := Lib.hid (curM_other c S x.kd x.co x.li x.wd x.v cur HK11.out (.inl (by rw [HDS.out])))
        go_wp2_with fail
        go_roundw
        case rel => exact ⟨k + 1, F5, S', cur, gb, cap, ys, r, by omega, by go_num, rfl, Mem.keep HM5.out (by (repeat' (first | with_reducible exact Chg.refl _ _ | with_reducible assumption | with_reducible refine Chg.drew ?_ | with_reducible refine Chg.drewN ?_ _ | with_reducible refine Chg.alloc ?_ _ | with_reducible refine Chg.putRow ?_ _ _ _ (.inr ?_) | with_reducible refine Chg.setCell ?_ _ _ _ (.inr ?_)  | (show _ ≤ _; first | exact Nat.le_refl _ | omega | (simp; done))))), HCM.out ▸ HI1.out, HF5.out, by simp [hcf5], by simp [hgb5], ⟨NG5.out, GW.out⟩, HYL.out, HYC.out⟩
        case measure => simp [intOf]; omega
      subst hdh
      have hkd := step_hit c S x.kd x.co x.li x.wd x.v (by rw [HDS.out])
      rcases hkd with k0 | k1 | k2
      · have tgt : decide ((1 : Int) < x.kd) = false := by rw [k0]; rfl
        have tk1 : (x.kd == 1) = false := by rw [k0]; rfl
        have HCM := Lib.hid (curM_other c S x.kd x.co x.li x.wd x.v cur HK11.out (.inr (by omega)))
        have hH := HI.out.loadHit x.co x.li x.wd (by have h1 := HDS.out; rw [k0, stepM_0] at h1; rw [h1])
        have hV : (loadM c S x.co x.li x.wd).2.v = dv := by have h1 := HDS.out; rw [k0, stepM_0] at h1; rw [h1]
        obtain ⟨i, hli⟩ : ∃ i : Nat, x.li = (i : Int) := ⟨x.li.toNat, by have := (inB_iff.1 hH.2.1).1; omega⟩
        obtain ⟨d, hwd⟩ : ∃ d : Nat, x.wd = (d : Int) := ⟨x.wd.toNat, by have := hH.2.2.1; unfold isWd at this; simp at this; omega⟩
        have hil : i < c.li := by have := (inB_iff.1 hH.2.1).2; omega
        have hd8 : d < 8 := by have := hH.2.2.1; unfold isWd at this; simp at this; omega
        have q1 : (0 : Int) ≤ (i : Int) := by omega
        have q2 : (i : Int) < (c.li : Int) := by omega
        have q3 : (0 : Int) ≤ (d : Int) := by omega
        have q4 : (d : Int) < 8 := by omega
        have q5 : decide (x.co < 0) = false := by have := (inB_iff.1 hH.1).1; exact decide_eq_false (by omega)
        have q6 : decide ((c.co : Int) ≤ x.co) = false := by have := (inB_iff.1 hH.1).2; exact decide_eq_false (by omega)
        have q7 : decide ((i : Int) < 0) = false := decide_eq_false (by omega)
        have q8 : decide ((c.li : Int) ≤ (i : Int)) = false := decide_eq_false (by omega)
        have q9 : decide ((d : Int) < 0) = false := decide_eq_false (by omega)
        have q10 : decide ((8 : Int) ≤ (d : Int)) = false := decide_eq_false (by omega)
        have hcell := bk_cell (ln_cell HYL.out hil hd8) r
        rw [HYC.out i hil, show (cur i).getD d 0 = dv by rw [← hV, hH.2.2.2, hli, hwd, Int.toNat_natCast, Int.toNat_natCast]] at hcell
        have tv : (dv != dv) = false := by simp
        clear hH hV k0 hil hd8
        go_wp2_with fail
        have C6 := Lib.hid ((Chg.refl [] w5).alloc (.cells (msc dm) 38))
        have hx6 := C6.out.keep hx5 List.not_mem_nil
        have hcf6 := C6.out.keep hcf5 List.not_mem_nil
        have hgb6 := C6.out.keep hgb5 List.not_mem_nil
        have HM6 := Lib.hid (show MS W _ c sy F5 S' from Mem.keep HM5.out C6.out)
        clear hx5 hcf5 hgb5 ox5 oc5 og5
        generalize w5.heap.size = b5
        generalize w5.alloc (.cells (msc dm) 38) = w6 at hx6 hcf6 hgb6 C6 HM6 ⊢
        have ox6 := old hx6
        have oc6 := old hcf6
        have og6 := old hgb6
        have HGB := Lib.hid hgb6
        have HCF := Lib.hid hcf6
        go_quiet (fail)
        go_wp2_with fail
        go_roundw
        case rel => exact ⟨k + 1, F5, S', cur, gb, cap, ys, r, by omega, by go_num, rfl, Mem.keep HM6.out ((Chg.refl [] w6).drewN _), HCM.out ▸ HI1.out, HF5.out, ((Chg.refl [] w6).drewN _).keep HCF.out List.not_mem_nil, ((Chg.refl [] w6).drewN _).keep HGB.out List.not_mem_nil, ⟨NG5.out, GW.out⟩, HYL.out, HYC.out⟩
        case measure => simp [intOf]; omega
      · have tgt : decide ((1 : Int) < x.kd) = false := by rw [k1]; rfl
        have tk1 : (x.kd == 1) = true := by rw [k1]; rfl
        have hS := HI.out.storeM x.co x.li x.wd x.v
        have hV : (storeM c S x.co x.li x.wd x.v).2.hit = true := by have h1 := HDS.out; rw [k1, stepM_1] at h1; rw [h1]
        have hH := hS.2 hV
        obtain ⟨i, hli⟩ : ∃ i : Nat, x.li = (i : Int) := ⟨x.li.toNat, by have := (inB_iff.1 hH.2.1).1; omega⟩
        obtain ⟨d, hwd⟩ : ∃ d : Nat, x.wd = (d : Int) := ⟨x.wd.toNat, by have := hH.2.2; unfold isWd at this; simp at this; omega⟩
        have hil : i < c.li := by have := (inB_iff.1 hH.2.1).2; omega
        have hd8 : d < 8 := by have := hH.2.2; unfold isWd at this; simp at this; omega
        have q1 : (0 : Int) ≤ (i : Int) := by omega
        have q2 : (i : Int) < (c.li : Int) := by omega
        have q3 : (0 : Int) ≤ (d : Int) := by omega
        have q4 : (d : Int) < 8 := by omega
        have q5 : decide (x.co < 0) = false := by have := (inB_iff.1 hH.1).1; exact decide_eq_false (by omega)
        have q6 : decide ((c.co : Int) ≤ x.co) = false := by have := (inB_iff.1 hH.1).2; exact decide_eq_false (by omega)
        have q7 : decide ((i : Int) < 0) = false := decide_eq_false (by omega)
        have q8 : decide ((c.li : Int) ≤ (i : Int)) = false := decide_eq_false (by omega)
        have q9 : decide ((d : Int) < 0) = false := decide_eq_false (by omega)
        have q10 : decide ((8 : Int) ≤ (d : Int)) = false := decide_eq_false (by omega)
        have hkl : i * 8 + d < ys.length := by rw [HYL.out]; omega
        have hset := bk_set hkl x.v r
        have hcell := bk_cell (ln_cell HYL.out hil hd8) r
        clear hS hH hil hd8
        go_wp2_with fail
        have C6 := Lib.hid ((Chg.refl [] w5).alloc (.cells (msc dm) 38))
        have hx6 := C6.out.keep hx5 List.not_mem_nil
        have hcf6 := C6.out.keep hcf5 List.not_mem_nil
        have hgb6 := C6.out.keep hgb5 List.not_mem_nil
        have HM6 := Lib.hid (show MS W _ c sy F5 S' from Mem.keep HM5.out C6.out)
        clear hx5 hcf5 hgb5 ox5 oc5 og5
        generalize w5.heap.size = b5
        generalize w5.alloc (.cells (msc dm) 38) = w6 at hx6 hcf6 hgb6 C6 HM6 ⊢
        have ox6 := old hx6
        have oc6 := old hcf6
        have og6 := old hgb6
        have hne : gb ≠ W.heap.size := Nat.ne_of_gt GW.out
        have HGB := Lib.hid hgb6
        have HCF := Lib.hid hcf6
        have HSET := Lib.hid hset
        have HLI := Lib.hid hli
        have HWD := Lib.hid hwd
        have HIL := Lib.hid (show i < c.li by omega)
        have HD8 := Lib.hid (show d < 8 by omega)
        have HK1 := Lib.hid k1
        have HHIT := Lib.hid hV
        clear hset k1 hV
        go_region
        all_goals
          go_wp2_with fail
          go_roundw
          case rel =>
            have CS := ((Chg.refl [gb] w6).setCell gb (i * 8 + d) (.int .u64 x.v) (.inl (by simp))).drew
            refine ⟨k + 1, F5, S', _, gb, cap, ys.set (i * 8 + d) x.v, r, by omega, by go_num, rfl, Mem.keepL HM6.out CS (by simpa using NG5.out) (by have h1 := GW.out; simp; omega), HI1.out, HF5.out, CS.keep HCF.out (by simpa using hne.symm), ?_, ⟨NG5.out, GW.out⟩, by rw [List.length_set]; exact HYL.out, fun j hj => ?_⟩
            · rw [heap_drew, heap_setCell, if_pos rfl, HGB.out, ← HSET.out]; rfl
            · unfold curM
              rw [if_pos HK1.out, if_pos HHIT.out, ln_setW HYL.out HIL.out HD8.out, HLI.out, HWD.out, Int.toNat_natCast]
              by_cases hji : j = i
              · subst hji; rw [if_pos rfl, if_pos rfl, HYC.out _ HIL.out]
              · rw [if_neg hji, if_neg (by omega), HYC.out j hj]
          case measure => simp [intOf]; omega
      · have tgt : decide ((1 : Int) < x.kd) = true := by rw [k2]; rfl
        have HCM := Lib.hid (curM_other c S x.kd x.co x.li x.wd x.v cur HK11.out (.inr (by omega)))
        go_wp2_with fail
        go_roundw
        case rel => exact ⟨k + 1, F5, S', cur, gb, cap, ys, r, by omega, by go_num, rfl, Mem.keep HM5.out (by (repeat' (first | with_reducible exact Chg.refl _ _ | with_reducible assumption | with_reducible refine Chg.drew ?_ | with_reducible refine Chg.drewN ?_ _ | with_reducible refine Chg.alloc ?_ _ | with_reducible refine Chg.putRow ?_ _ _ _ (.inr ?_) | with_reducible refine Chg.setCell ?_ _ _ _ (.inr ?_)  | (show _ ≤ _; first | exact Nat.le_refl _ | omega | (simp; done))))), HCM.out ▸ HI1.out, HF5.out, by simp [hcf5], by simp [hgb5], ⟨NG5.out, GW.out⟩, HYL.out, HYC.out⟩
        case measure => simp [intOf]; omega
    · obtain rfl : k = N := by omega
      have t2 : decide (k < k) = false := by simp
      go_wp2_with fail
      refine (mwakes _ (HT.out.keep0 (Mem.chg HM.out))).mono ?_
      rintro e w4 ⟨rfl, cw4⟩
      go_wp2_with fail
      go_ret
      exact ⟨rfl, (Mem.chg HM.out).trans cw4⟩
theorem mMesiTrue_any (c0 c1 c2 c3 c4 c5 c6 : Int) (A : Option Addr) (N cN : Nat) (xs : List Value) (W : World) (hT : Tabs W) (hA : Sl W 5 A N xs) (hN : N ≤ maxLen) (hk : ∀ i, i < N → AreKd W kMst ((xs.drop (i * 5)).take 5)) : Calls Tryz.prog 4 #[.agg #[.int .i64 c0, .int .i64 c1, .int .i64 c2, .int .i64 c3, .int .i64 c4, .int .i64 c5, .int .i64 c6], .slice A N cN] W fun e w' => e = .returned (.bool true) ∧ Chg [] W w' := by
  by_cases hl : 600 < N
  · exact mMesiTrue_long c0 c1 c2 c3 c4 c5 c6 A N cN xs W hT hA hN hk hl
  · cases hg : goodB c0 c1 c2 c3 c4 c5 c6
    · exact mMesiTrue_bad c0 c1 c2 c3 c4 c5 c6 A N cN xs W hT hA hN hk hl hg
    · obtain ⟨c, hc, rfl, rfl, rfl, rfl, rfl, rfl, rfl⟩ := cg_of hg
      exact mMesiTrue_good c hc A N cN xs W hT hA hN hk hl
end Go.Proofs.YtadeoflkppiflaaGreatDoor
end
