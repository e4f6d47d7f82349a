/- Texts of the walk, one behind the other: Mgj Mey2 Prg Mgk. No condition. -/
import Derived.Test.YtadeoflkppiflaaGreatDoorNaa
import Derived.Test.YtadeoflkppiflaaGreatDoorNan
import Derived.Test.YtadeoflkppiflaaGreatDoorNaq
import Derived.Test.YtadeoflkppiflaaGreatDoorNar
import Derived.BigQuiet
import Derived.Deep.Cut
import Derived.Deep.CutBlock
import Derived.Deep.CutRange
import Derived.Deep.DeepCutAuto
import Derived.Deep.QuietTactic
import Derived.Deep.RegionHeld3
import Derived.Deep.RegionWith
import Derived.LaidMore
import Derived.SevenTiedAt
import Derived.Test.YtadeoflkppiflaaGreatDoorCards
import Derived.Test.YtadeoflkppiflaaGreatDoorTie
section
namespace Go.Proofs.YtadeoflkppiflaaGreatDoor
open Go.RowKit
set_option linter.unusedVariables false
set_option maxHeartbeats 1000000
set_option maxRecDepth 100000
attribute [local go_sem ↓] append_appS copy_copS clear_clrS make_mkS cell_row frozen_row loadLine storeLine loadSlot storeSlot heap_drew heap_drewN heap_alloc heap_past heap_setCell heap_putRow vs_get slc_st slc_li slc_us slice_slS loadMsg storeMsg loadHas storeHas msc_kd msc_li msc_di msc_ke
attribute [local go_sem] rowCell_some rowFrozen_some rowHas_some rowIn_some rowPart_full rowPart_lit rowPut_full rowPut_lit rowSet_some size_putRow vs_size vs_one wideLine wideSlot run_loadS run_storeS run_appS run_copS run_clrS run_mkS loadW_at storeW_at fit_all fit_le one_int one_bool one_pointer one_slice allOne_list putRow_new ne_size1 ne_size2 ne_size3 ne_size4 zero8_length lines_nil line_eq lit8 slc_size slc_one slc_part slc_in fold_slt fold_slc slc_set_us wideMsg wideHas run_slS msc_size msc_one msc_part msc_in fold_msc msc_putDi msc_putKe msc_putX msc_has ms4_lit
attribute [local simp ↓] heap_drew heap_drewN heap_alloc heap_past heap_setCell heap_putRow
attribute [local simp] rowCell_some rowFrozen_some rowHas_some rowIn_some rowPart_full rowPart_lit rowPut_full rowPut_lit rowSet_some size_putRow vs_size fit_all putRow_new ne_size1 ne_size2 ne_size3 ne_size4 zero8_length slc_size msc_size msc_putDi msc_putKe msc_putX msc_has fit_le
attribute [local go_sem ↓] ec_he ec_di ec_ow ec_sh ec_bu ec_by ec_wa sc_to
attribute [local go_sem] mi_and mi_or mi_not mi_beq0 mi_bne0 ec_size ec_one ec_part ec_in ec_has ec_setDi ec_setOw ec_setSh ec_setBu ec_setBy ec_setWa ec_setSh0 ec_setWa0 ec_putM sc_size sc_one sc_part sc_in
attribute [local simp] ec_size sc_size ec_setDi ec_setOw ec_setSh ec_setBu ec_setBy ec_setWa ec_setSh0 ec_setWa0 ec_putM
attribute [local go_sem ↓] loadEn storeEn loadSd storeSd en_z0
attribute [local go_sem] wideEn wideSd fold_sc size11 putRow_newB putRow_newC ms5_lit
attribute [local simp] en_z0 putRow_newB putRow_newC fit_le ec_has



attribute [local go_sem ↓] mlitZ zenc_po zenc_en zenc_q
attribute [local simp] mlitZ

theorem storeMst (p x : Value) : Instr.storeAt 42 p x = storeS 42 5 p x := rfl
theorem fold_mst (C : Array Value) (s : MStp) (h : C.size = 5) : Array.foldl (fun cs y => cs.setIfInBounds y.snd y.fst) C (mstc s).zipIdx 0 5 = mstc s := fold_all _ _ _ (mstc_size s) h
def mstZ : MStp := ⟨0, 0, 0, 0, 0⟩
theorem mst_z0 : (#[.int .i64 0, .int .i64 0, .int .i64 0, .int .i64 0, .int .u64 0] : Array Value) = mstc mstZ := rfl
theorem mstc_sizeN (x : MStp) : (mstc x).size = 5 := by rw [mstc_size]
theorem cg_sizeN (c : Cg) : c.cells.size = 7 := by rw [cg_size]
theorem cg_co0 (c : Cg) : c.cells[0]? = some (.int .i64 c.co) := rfl
attribute [local go_sem ↓] mst_z0 storeMst loadMst mstc_0 mstc_1 mstc_2 mstc_3 mstc_4 loadCg cg_li cg_vo cg_qu cg_co0
attribute [local simp] mst_z0 mstc_sizeN cg_sizeN
attribute [local go_sem] fold_mst wideMst mstc_sizeN mstc_one mstc_part wideCg cg_sizeN cg_one cg_part
theorem wf_u64v {v : Int} (h : (Lit.int .u64 v).wf = true) : 0 ≤ v := (bounds_u64 h).1
def kMst : List Kd := [.int .i64, .int .i64, .int .i64, .int .i64, .int .u64]
theorem mstep_cellsV {w : World} {cs : List Value} (h : AreKd w kMst cs) : ∃ x : MStp, cs = (mstc x).toList ∧ 0 ≤ x.v := by
  obtain ⟨v0, c0, rfl, h0, hA⟩ := AreKd.head h
  obtain ⟨v1, c1, rfl, h1, hB⟩ := AreKd.head hA
  obtain ⟨v2, c2, rfl, h2, hC⟩ := AreKd.head hB
  obtain ⟨v3, c3, rfl, h3, hD⟩ := AreKd.head hC
  obtain ⟨v4, c4, rfl, h4, hE⟩ := AreKd.head hD
  obtain rfl := AreKd.done hE
  simp only [IsKd] at h0 h1 h2 h3 h4
  obtain ⟨kd, rfl, _⟩ := h0
  obtain ⟨co, rfl, _⟩ := h1
  obtain ⟨li, rfl, _⟩ := h2
  obtain ⟨wd, rfl, _⟩ := h3
  obtain ⟨v, rfl, hv⟩ := h4
  refine ⟨⟨kd, co, li, wd, v⟩, rfl, ?_⟩
  have := wf_u64v hv
  exact this

/-! ### What the statements over steps have in common -/
theorem Tabs.keep0 {w w' : World} (h : Tabs w) (hc : Chg [] w w') : Tabs w' := ⟨h.1.keep hc (by simp), h.2.keep hc (by simp)⟩
theorem cg_of {c0 c1 c2 c3 c4 c5 c6 : Int} (h : goodB c0 c1 c2 c3 c4 c5 c6 = true) : ∃ c : Cg, c.Ok ∧ c0 = (c.co : Int) ∧ c1 = (c.li : Int) ∧ c2 = (c.vo : Int) ∧ c3 = (c.se : Int) ∧ c4 = (c.wa : Int) ∧ c5 = (c.qu : Int) ∧ c6 = (c.st : Int) := by
  unfold goodB at h
  have h := of_decide_eq_true h
  refine ⟨⟨c0.toNat, c1.toNat, c2.toNat, c3.toNat, c4.toNat, c5.toNat, c6.toNat⟩, ⟨?_, ?_, ?_, ?_, ?_, ?_, ?_, ?_, ?_, ?_, ?_⟩, ?_, ?_, ?_, ?_, ?_, ?_, ?_⟩
  all_goals dsimp only
  all_goals first | omega | (unfold goodNew; omega)
theorem mgood_false (c0 c1 c2 c3 c4 c5 c6 : Int) (w : World) (h : goodB c0 c1 c2 c3 c4 c5 c6 = false) : Calls Tryz.prog 17 #[.agg #[.int .i64 c0, .int .i64 c1, .int .i64 c2, .int .i64 c3, .int .i64 c4, .int .i64 c5, .int .i64 c6]] w fun e w' => e = .returned (.bool false) ∧ Chg [] w w' := by
  refine (wdrgood_any c0 c1 c2 c3 c4 c5 c6 w).mono ?_
  rintro e w' ⟨rfl, rfl⟩
  exact ⟨by rw [h], (Chg.refl [] w).alloc _⟩
theorem mgood_true (c : Cg) (hc : c.Ok) (w : World) : Calls Tryz.prog 17 #[.agg c.cells] w fun e w' => e = .returned (.bool true) ∧ Chg [] w w' := by
  refine (wdrgood_any c.co c.li c.vo c.se c.wa c.qu c.st w).mono ?_
  rintro e w' ⟨rfl, rfl⟩
  exact ⟨by rw [good_ok c hc], (Chg.refl [] w).alloc _⟩
theorem mstep_row {w : World} {o b n : Nat} {xs : List Value} (hA : Sl w 5 (some ⟨b, o, none⟩) n xs) {i : Nat} (hi : i < n) (hk : AreKd w kMst ((xs.drop (i * 5)).take 5)) :
    ∃ (x : MStp) (c : Array Value) (t : TypeId) (f : Nat × Nat), w.heap[b]? = some (.cells c t f) ∧ rowIn (some (.cells c t f)) (o + i * 5) 5 = true ∧ rowPart (some (.cells c t f)) (o + i * 5) 5 = mstc x ∧ 0 ≤ x.v := by
  obtain ⟨x, hy, hv⟩ := mstep_cellsV hk
  obtain ⟨cs, t, f, hb, _, hp⟩ := hA.elem (by omega) hi hy
  have h0 := hp 0 5 (by omega)
  rw [Nat.add_zero] at h0
  refine ⟨x, cs, t, f, hb, h0.1, ?_, hv⟩
  rw [h0.2]
  simp [mstc]
section
variable {W w : World} {c : Cg} {sy n : Nat} {F : List Nat} {S : Mst} {cur : Nat → List Int} (hm : MS W w c sy F S) (hI : Inv c n S cur)
include hm hI
theorem yslots (k : Int) (hk : inB k c.co = true) : Calls Tryz.prog 19 #[.pointer (some ⟨sy, 0, none⟩), .int .i64 k] w (SlotsNew w (live (atP S.ps k.toNat).s.1)) := by
  obtain ⟨h0, h1⟩ := inB_iff.1 hk
  obtain ⟨j, rfl⟩ : ∃ j : Nat, k = (j : Int) := ⟨k.toNat, by omega⟩
  rw [Int.toNat_natCast]
  exact mslots_new hm j _ (atP_mem (by rw [hI.co]; omega))
omit hm in
theorem Inv.live64 {j : Nat} (hj : j < c.co) : (live (atP S.ps j).s.1).length ≤ 64 := Nat.le_trans (live_le _) (hI.pt j hj).aj.good.len64
theorem ysames_no (k : Int) (hk : inB k c.co = true) (A : Option Addr) (m cn : Nat) (ts : List Slt) (hn : ts.length = m) (h64 : m ≤ 64) (hA : Sl w 11 A m (cat Slt.enc ts)) (hne : live (atP S.ps k.toNat).s.1 ≠ ts) :
    Calls Tryz.prog 21 #[.slice A m cn, .pointer (some ⟨sy, 0, none⟩), .int .i64 k] w fun e w' => e = .returned (.bool false) ∧ Chg [] w w' := by
  obtain ⟨h0, h1⟩ := inB_iff.1 hk
  obtain ⟨j, rfl⟩ : ∃ j : Nat, k = (j : Int) := ⟨k.toNat, by omega⟩
  rw [Int.toNat_natCast] at hne
  exact sames_no hm j _ (atP_mem (by rw [hI.co]; omega)) A m cn ts hn h64 hA hne (Nat.le_trans (live_le _) (hI.pt j (by omega)).aj.good.len64)
end
theorem mMesiFits_long (c0 c1 c2 c3 c4 c5 c6 : Int) (A : Option Addr) (N cN : Nat) (xs : List Value) (W : World) (hT : Tabs W) (hA : Sl W 5 A N xs) (hN : N ≤ maxLen) (hk : ∀ i, i < N → AreKd W kMst ((xs.drop (i * 5)).take 5)) (hl : 400 < N) : Calls Tryz.prog 6 #[.agg #[.int .i64 c0, .int .i64 c1, .int .i64 c2, .int .i64 c3, .int .i64 c4, .int .i64 c5, .int .i64 c6], .slice A N cN] W fun e w' => e = .returned (.bool true) ∧ Chg [] W w' := by
  unfold maxLen at hN
  have t0 : decide (400 < N) = true := by simpa using hl
  have t1 : decide ((400 : Int) < (N : Int)) = true := by simp; omega
  have HT := Lib.hid hT
  clear hT hA hk hl
  go_enter Tryz.func6, Tryz.ntmps6
  try dsimp only [List.append]
  go_wp2_with (first | (go_at_call 11; refine (mwakes _ (HT.out.keep0 (by (repeat' (first | with_reducible exact Chg.refl _ _ | with_reducible assumption | with_reducible refine Chg.drew ?_ | with_reducible refine Chg.drewN ?_ _ | with_reducible refine Chg.alloc ?_ _ | with_reducible refine Chg.putRow ?_ _ _ _ (.inr ?_) | with_reducible refine Chg.setCell ?_ _ _ _ (.inr ?_)  | (show _ ≤ _; first | exact Nat.le_refl _ | omega | (simp; done))))))).mono ?_; rintro e w2 ⟨rfl, cw2⟩))
  go_ret
  exact ⟨rfl, ((Chg.refl [] W).alloc _).trans cw2⟩
theorem mMesiFits_bad (c0 c1 c2 c3 c4 c5 c6 : Int) (A : Option Addr) (N cN : Nat) (xs : List Value) (W : World) (hT : Tabs W) (hA : Sl W 5 A N xs) (hN : N ≤ maxLen) (hk : ∀ i, i < N → AreKd W kMst ((xs.drop (i * 5)).take 5)) (hl : ¬ 400 < N) (hg : goodB c0 c1 c2 c3 c4 c5 c6 = false) : Calls Tryz.prog 6 #[.agg #[.int .i64 c0, .int .i64 c1, .int .i64 c2, .int .i64 c3, .int .i64 c4, .int .i64 c5, .int .i64 c6], .slice A N cN] W fun e w' => e = .returned (.bool true) ∧ Chg [] W w' := by
  unfold maxLen at hN
  have t0 : decide (400 < N) = false := by simpa using hl
  have t1 : decide ((400 : Int) < (N : Int)) = false := by simp; omega
  have HT := Lib.hid hT
  have HG := Lib.hid (fun w => mgood_false c0 c1 c2 c3 c4 c5 c6 w hg)
  clear hT hA hk hl hg
  go_enter Tryz.func6, Tryz.ntmps6
  try dsimp only [List.append]
  go_wp2_with (first | (go_at_call 17; refine (HG.out _).mono ?_; rintro e w1 ⟨rfl, cw1⟩))
  have C1 := Lib.hid (((Chg.refl [] W).alloc (.cells #[.int .i64 c0, .int .i64 c1, .int .i64 c2, .int .i64 c3, .int .i64 c4, .int .i64 c5, .int .i64 c6] 23)).trans cw1)
  clear cw1
  go_wp2_with fail
  refine (mwakes _ (HT.out.keep0 C1.out)).mono ?_
  rintro e w2 ⟨rfl, cw2⟩
  go_wp2_with fail
  go_ret
  exact ⟨rfl, C1.out.trans cw2⟩

theorem stepM_4 (c : Cg) (S : Mst) (co li wd v : Int) : stepM c S 4 co li wd v = upM c S co := rfl
theorem stepM_5 (c : Cg) (S : Mst) (co li wd v : Int) : stepM c S 5 co li wd v = answerM c S co := rfl
theorem stepM_6 (c : Cg) (S : Mst) (co li wd v : Int) : stepM c S 6 co li wd v = hearM c S co := rfl
theorem mMesiFits_good (c : Cg) (hc : c.Ok) (A : Option Addr) (N cN : Nat) (xs : List Value) (W : World) (hT : Tabs W) (hA : Sl W 5 A N xs) (hN : N ≤ maxLen) (hk : ∀ i, i < N → AreKd W kMst ((xs.drop (i * 5)).take 5)) (hl : ¬ 400 < N) : Calls Tryz.prog 6 #[.agg c.cells, .slice A N cN] W fun e w' => e = .returned (.bool true) ∧ Chg [] W w' := by
  have t0 : decide (400 < N) = false := by simpa using hl
  have t1 : decide ((400 : Int) < (N : Int)) = false := by simp; omega
  have hN4 : N ≤ 400 := by omega
  have HT := Lib.hid hT
  have HA := Lib.hid hA
  have HK := Lib.hid hk
  have HCO := Lib.hid hc
  have HG := Lib.hid (fun w => mgood_true c hc w)
  clear hT hA hk hl hN hc
  go_enter Tryz.func6, Tryz.ntmps6
  try dsimp only [List.append]
  go_wp2_with fail
  refine (HG.out _).mono ?_
  rintro e w1 ⟨rfl, cw1⟩
  have C1 := Lib.hid (((Chg.refl [] W).alloc (.cells c.cells 23)).trans cw1)
  have r1 := cw1.keep (show (W.alloc (.cells c.cells 23)).heap[W.heap.size]? = some (.cells c.cells 23 (0, 0)) from new_blk _ _) List.not_mem_nil
  have o1 := old r1
  clear cw1
  go_wp2_with fail
  refine (mnew_none W _ c HCO.out C1.out none 0).mono ?_
  rintro e w2 ⟨sy, F, rfl, hm, hcc, hkk⟩
  have r2 := hcc.keep r1 List.not_mem_nil
  have M0 := Lib.hid (show MS W w2 c sy F ⟨List.replicate c.co (pt0 c), List.replicate c.li enE, [], List.replicate (c.li * 8) 0⟩ from hm)
  have I0 := Lib.hid (Inv.fresh c HCO.out (List.replicate (c.li * 8) 0) (by simp))
  have HF0 := Lib.hid (show ∀ k ∈ F, W.heap.size < k from fun k hk => Nat.lt_of_lt_of_le o1.lt (hkk k hk))
  clear hm hcc hkk r1 o1
  have o2 := old r2
  go_wp2_with fail
  go_loopw [7] (fun i wr => ∃ (k : Nat) (F : List Nat) (S : Mst) (cur : Nat → List Int), k ≤ N ∧ i = .int .i64 k ∧ MS W wr c sy F S ∧ Inv c k S cur ∧ (∀ b ∈ F, W.heap.size < b) ∧ wr.heap[W.heap.size]? = some (.cells c.cells 23 (0, 0))) (fun i _ => N - (intOf i).toNat)
  case atStart => exact ⟨0, F, _, _, by omega, rfl, M0.out, I0.out, HF0.out, r2⟩
  case round =>
    obtain ⟨k, F, S, cur, hkN, rfl, hm, hI, hF, hcf⟩ := hrel
    have HM := Lib.hid hm
    have HI := Lib.hid hI
    have HF := Lib.hid hF
    clear hm hI hF r2 o2 M0 I0 HF0
    have g0 : (0 : Int) ≤ (k : Int) := by omega
    by_cases hlt : k < N
    · have t2 : decide (k < N) = true := by simpa using hlt
      have g1 : (k : Int) < (N : Int) := by omega
      obtain ⟨ba, oa, rfl⟩ := HA.out.addr (by omega)
      obtain ⟨x, cs, t, f, hb, hi, hp, hv⟩ := mstep_row HA.out hlt (HK.out k hlt)
      have HV := Lib.hid hv
      have hbr := (Mem.chg HM.out).keep hb (by simp)
      have obr := old hbr
      have hx1 : (wr.alloc (.cells (mstc x) 42)).heap[wr.heap.size]? = some (.cells (mstc x) 42 (0, 0)) := new_blk _ _
      have CX := Lib.hid ((Chg.refl [] wr).alloc (.cells (mstc x) 42))
      have HM1 := Lib.hid (show MS W (wr.alloc (.cells (mstc x) 42)) c sy F S from Mem.keep HM.out CX.out)
      have hcf1 := CX.out.keep hcf List.not_mem_nil
      have NB := Lib.hid (show W.heap.size ∉ F from fun h => Nat.lt_irrefl _ (HF.out _ h))
      have NX := Lib.hid (show wr.heap.size ∉ F from fun h => Nat.lt_irrefl _ (Mem.old HM.out _ h))
      have WB := Lib.hid (show W.heap.size ≤ wr.heap.size from (Mem.chg HM.out).size)
      clear hb hv
      have HI1 := Lib.hid (HI.out.step x.kd x.co x.li x.wd x.v)
      by_cases hin : inB x.co c.co = true
      · obtain ⟨hc0, hc1⟩ := inB_iff.1 hin
        have t3 : decide (x.co < 0) = false := by simp; omega
        have t4 : decide ((c.co : Int) ≤ x.co) = false := by simp; omega
        have HIN := Lib.hid hin
        clear hin hc0 hc1
        go_wp2_with fail
        clear hbr obr hcf
        generalize hbx : wr.heap.size = bx at hx1 NX WB ⊢
        have BX := Lib.hid hbx
        generalize wr.alloc (.cells (mstc x) 42) = w3 at hx1 HM1 CX hcf1 ⊢
        clear hbx
        refine (yslots HM1.out HI.out x.co HIN.out).mono ?_
        rintro e w4 ⟨A1, n1, rfl, hs1, cw4, hn1⟩
        have HM4 := Lib.hid (show MS W w4 c sy F S from Mem.keep HM1.out cw4)
        have hx4 := cw4.keep hx1 List.not_mem_nil
        have hcf4 := cw4.keep hcf1 List.not_mem_nil
        have HS4 := Lib.hid hs1
        have HN4 := Lib.hid (show ∀ p, A1 = some p → p.block ∉ F from fun p hp h => by have h1 := hn1 p hp; have h2 := Mem.old HM1.out _ h; omega)
        have C4 := Lib.hid (CX.out.trans cw4)
        have HL64 := Lib.hid (HI.out.live64 (j := x.co.toNat) (by have := inB_iff.1 HIN.out; omega))
        obtain ⟨ts, hts⟩ : ∃ ts, live (atP S.ps x.co.toNat).s.1 = ts := ⟨_, rfl⟩
        rw [hts] at HS4 HL64 ⊢
        have HTS := Lib.hid hts
        obtain ⟨m, hm⟩ : ∃ m, ts.length = m := ⟨_, rfl⟩
        have HMM := Lib.hid hm
        rw [hm] at HS4 HL64 ⊢
        have g64 : (m : Int) ≤ 64 := by have := HL64.out; omega
        clear hs1 hn1 cw4 hx1 hcf1 hts hm
        have ox4 := old hx4
        have oc4 := old hcf4
        go_wp2_with fail
        have hop := do_any HM4.out HI.out (by omega) HT.out x HV.out
        unfold didV at hop
        have HD4 := Lib.hid (fun h : x.kd = 4 => show (stepM c S x.kd x.co x.li x.wd x.v).2.e = 0 ∨ (stepM c S x.kd x.co x.li x.wd x.v).2.e = 14 ∨ (stepM c S x.kd x.co x.li x.wd x.v).2.e = 15 by rw [h, stepM_4]; exact (HI.out.upM x.co).2 HIN.out)
        have HD5 := Lib.hid (fun h : x.kd = 5 => show (stepM c S x.kd x.co x.li x.wd x.v).2.e = 0 ∨ (stepM c S x.kd x.co x.li x.wd x.v).2.e = 14 by rw [h, stepM_5]; exact (HI.out.answerM x.co).2 HIN.out)
        have HD6 := Lib.hid (fun h : x.kd = 6 => show ((stepM c S x.kd x.co x.li x.wd x.v).2.e = 0 ∨ (stepM c S x.kd x.co x.li x.wd x.v).2.e = 14) ∧ ((stepM c S x.kd x.co x.li x.wd x.v).2.e = 0 → (stepM c S x.kd x.co x.li x.wd x.v).2.m.kd ≠ 14 → live (atP (stepM c S x.kd x.co x.li x.wd x.v).1.ps x.co.toNat).s.1 ≠ ts) by
          rw [h, stepM_6]
          exact ⟨(HI.out.hearM x.co).2.1 HIN.out, fun h1 h2 => HTS.out ▸ (HI.out.hearM x.co).2.2 HIN.out h1 h2⟩)
        obtain ⟨d, hd⟩ : ∃ d, stepM c S x.kd x.co x.li x.wd x.v = d := ⟨_, rfl⟩
        rw [hd] at hop HD4 HD5 HD6 HI1
        obtain ⟨S', dv, dh, dm, de⟩ := d
        dsimp only at hop HD4 HD5 HD6 HI1
        have HDS := Lib.hid hd
        clear hd
        refine hop.mono ?_
        rintro e w5 ⟨rfl, m5⟩
        obtain ⟨F5, hm5, cw5, hk5⟩ := m5
        have HM5 := Lib.hid (show MS W w5 c sy F5 S' from hm5)
        have hx5 := cw5.keep hx4 NX.out
        have hcf5 := cw5.keep hcf4 NB.out
        have HF5 := Lib.hid (show ∀ b ∈ F5, W.heap.size < b from fun b hb => by
          rcases hk5 b hb with h1 | h1
          · exact HF.out b h1
          · have h2 := C4.out.size; have h3 := oc4.lt; omega)
        have HA5 := Lib.hid (HS4.out.chg cw5 HN4.out)
        have C5 := Lib.hid cw5
        clear hop hm5 cw5 hk5 hx4 hcf4 ox4 oc4
        have ox5 := old hx5
        have oc5 := old hcf5
        by_cases k4 : x.kd = 4
        · have tk : (x.kd == 4) = true := by simp [k4]
          have he := HD4.out k4
          clear k4
          rcases he with rfl | rfl | rfl
          all_goals
            go_wp2_with fail
            go_roundw
            case rel => exact ⟨k + 1, F5, S', _, by omega, by go_num, Mem.keep HM5.out (by (repeat' (first | with_reducible exact Chg.refl _ _ | with_reducible assumption | with_reducible refine Chg.drew ?_ | with_reducible refine Chg.drewN ?_ _ | with_reducible refine Chg.alloc ?_ _ | with_reducible refine Chg.putRow ?_ _ _ _ (.inr ?_) | with_reducible refine Chg.setCell ?_ _ _ _ (.inr ?_)  | (show _ ≤ _; first | exact Nat.le_refl _ | omega | (simp; done))))), HI1.out, HF5.out, by simp [hcf5]⟩
            case measure => simp [intOf]; omega
        have tk4 : (x.kd == 4) = false := by simpa using k4
        by_cases k5 : x.kd = 5
        · have tk : (x.kd == 5) = true := by simp [k5]
          have he := HD5.out k5
          clear k5 k4
          rcases he with rfl | rfl
          all_goals
            go_wp2_with fail
            go_roundw
            case rel => exact ⟨k + 1, F5, S', _, by omega, by go_num, Mem.keep HM5.out (by (repeat' (first | with_reducible exact Chg.refl _ _ | with_reducible assumption | with_reducible refine Chg.drew ?_ | with_reducible refine Chg.drewN ?_ _ | with_reducible refine Chg.alloc ?_ _ | with_reducible refine Chg.putRow ?_ _ _ _ (.inr ?_) | with_reducible refine Chg.setCell ?_ _ _ _ (.inr ?_)  | (show _ ≤ _; first | exact Nat.le_refl _ | omega | (simp; done))))), HI1.out, HF5.out, by simp [hcf5]⟩
            case measure => simp [intOf]; omega
        have tk5 : (x.kd == 5) = false := by simpa using k5
        by_cases k6 : x.kd = 6
        · have tk : (x.kd == 6) = true := by simp [k6]
          obtain ⟨he, hs⟩ := HD6.out k6
          clear k6 k5 k4
          have HSS := Lib.hid hs
          clear hs
          rcases he with rfl | rfl
          · by_cases h14 : dm.kd = 14
            · have tm : (dm.kd != 14) = false := by simp [h14]
              clear h14
              go_wp2_with fail
              go_roundw
              case rel => exact ⟨k + 1, F5, S', _, by omega, by go_num, Mem.keep HM5.out (by (repeat' (first | with_reducible exact Chg.refl _ _ | with_reducible assumption | with_reducible refine Chg.drew ?_ | with_reducible refine Chg.drewN ?_ _ | with_reducible refine Chg.alloc ?_ _ | with_reducible refine Chg.putRow ?_ _ _ _ (.inr ?_) | with_reducible refine Chg.setCell ?_ _ _ _ (.inr ?_)  | (show _ ≤ _; first | exact Nat.le_refl _ | omega | (simp; done))))), HI1.out, HF5.out, by simp [hcf5]⟩
              case measure => simp [intOf]; omega
            · have tm : (dm.kd != 14) = true := by simpa using h14
              have HNE := Lib.hid (HSS.out rfl h14)
              clear h14
              go_wp2_with fail
              refine (ysames_no (Mem.keep HM5.out (Chg.alloc (Chg.refl [] w5) (.cells (msc dm) 38))) HI1.out x.co HIN.out A1 m n1 ts HMM.out HL64.out (HA5.out.chg (Chg.alloc (Chg.refl [] w5) (.cells (msc dm) 38)) (by simp)) HNE.out).mono ?_
              rintro e w6 ⟨rfl, cw6⟩
              have C6 := Lib.hid ((Chg.alloc (Chg.refl [] w5) (.cells (msc dm) 38)).trans cw6)
              have hcf6 := C6.out.keep hcf5 List.not_mem_nil
              clear cw6 hx5 hcf5 ox5 oc5
              go_wp2_with fail
              go_roundw
              case rel => exact ⟨k + 1, F5, S', _, by omega, by go_num, Mem.keep HM5.out C6.out, HI1.out, HF5.out, hcf6⟩
              case measure => simp [intOf]; omega
          · go_wp2_with fail
            go_roundw
            case rel => exact ⟨k + 1, F5, S', _, by omega, by go_num, Mem.keep HM5.out (by (repeat' (first | with_reducible exact Chg.refl _ _ | with_reducible assumption | with_reducible refine Chg.drew ?_ | with_reducible refine Chg.drewN ?_ _ | with_reducible refine Chg.alloc ?_ _ | with_reducible refine Chg.putRow ?_ _ _ _ (.inr ?_) | with_reducible refine Chg.setCell ?_ _ _ _ (.inr ?_)  | (show _ ≤ _; first | exact Nat.le_refl _ | omega | (simp; done))))), HI1.out, HF5.out, by simp [hcf5]⟩
            case measure => simp [intOf]; omega
        have tk6 : (x.kd == 6) = false := by simpa using k6
        clear k4 k5 k6
        go_wp2_with fail
        go_roundw
        case rel => exact ⟨k + 1, F5, S', _, by omega, by go_num, Mem.keep HM5.out (by (repeat' (first | with_reducible exact Chg.refl _ _ | with_reducible assumption | with_reducible refine Chg.drew ?_ | with_reducible refine Chg.drewN ?_ _ | with_reducible refine Chg.alloc ?_ _ | with_reducible refine Chg.putRow ?_ _ _ _ (.inr ?_) | with_reducible refine Chg.setCell ?_ _ _ _ (.inr ?_)  | (show _ ≤ _; first | exact Nat.le_refl _ | omega | (simp; done))))), HI1.out, HF5.out, by simp [hcf5]⟩
        case measure => simp [intOf]; omega
      · have HNI := Lib.hid hin
        have t34 : (decide (x.co < 0) = true) ∨ (decide (x.co < 0) = false ∧ decide ((c.co : Int) ≤ x.co) = true) := by
          by_cases h : x.co < 0
          · exact .inl (by simpa using h)
          · refine .inr ⟨by simpa using h, ?_⟩
            have : ¬ (0 ≤ x.co ∧ x.co < c.co) := fun h2 => hin (inB_iff.2 h2)
            simp; omega
        clear hin
        rcases t34 with t3 | ⟨t3, t4⟩
        all_goals
          go_wp2_with fail
          go_roundw
          case rel => exact ⟨k + 1, F, S, cur, by omega, by go_num, HM1.out, HI.out.next, HF.out, hcf1⟩
          case measure => simp [intOf]; omega
    · obtain rfl : k = N := by omega
      have t2 : decide (k < k) = false := by simp
      go_wp2_with fail
      refine (mwakes _ (HT.out.keep0 (Mem.chg HM.out))).mono ?_
      rintro e w4 ⟨rfl, cw4⟩
      go_wp2_with fail
      go_ret
      exact ⟨rfl, (Mem.chg HM.out).trans cw4⟩
theorem mMesiFits_any (c0 c1 c2 c3 c4 c5 c6 : Int) (A : Option Addr) (N cN : Nat) (xs : List Value) (W : World) (hT : Tabs W) (hA : Sl W 5 A N xs) (hN : N ≤ maxLen) (hk : ∀ i, i < N → AreKd W kMst ((xs.drop (i * 5)).take 5)) : Calls Tryz.prog 6 #[.agg #[.int .i64 c0, .int .i64 c1, .int .i64 c2, .int .i64 c3, .int .i64 c4, .int .i64 c5, .int .i64 c6], .slice A N cN] W fun e w' => e = .returned (.bool true) ∧ Chg [] W w' := by
  by_cases hl : 400 < N
  · exact mMesiFits_long c0 c1 c2 c3 c4 c5 c6 A N cN xs W hT hA hN hk hl
  · cases hg : goodB c0 c1 c2 c3 c4 c5 c6
    · exact mMesiFits_bad c0 c1 c2 c3 c4 c5 c6 A N cN xs W hT hA hN hk hl hg
    · obtain ⟨c, hc, rfl, rfl, rfl, rfl, rfl, rfl, rfl⟩ := cg_of hg
      exact mMesiFits_good c hc A N cN xs W hT hA hN hk hl
end Go.Proofs.YtadeoflkppiflaaGreatDoor
end
section
namespace Go.Proofs.YtadeoflkppiflaaGreatDoor
open Go.ChangeShapes Go.WideShapes Go.ChangeAt Go.RowKit
set_option linter.unusedVariables false

theorem own : ownKnob Tryz.prog.godebug = none := by kernel_rfl
theorem laidOut : laidOutB Tryz.prog = true := by kernel_rfl

/-- What a list of two variables gives: their blocks. -/
theorem block_of_laid2 {P : Program} {W : World} {name name' : String} {d d' : DataW Unit} {g g' : Nat} {t t' : TypeId} {n n' : Nat}
    (hg : P.globalNamed name = some g) (hty : (P.globals[g]?).map (·.type) = some t) (hp : plainTy P n t = true)
    (hg' : P.globalNamed name' = some g') (hty' : (P.globals[g']?).map (·.type) = some t') (hp' : plainTy P n' t' = true)
    (hpl : ([(name, d), (name', d')].all fun x => x.2.handleName?.isNone) = true) (h : laidMetH P [(name, d), (name', d')] W) :
    (∃ ty f, W.heap[g]? = some (.cells (flat d).toArray ty f)) ∧ ∃ ty f, W.heap[g']? = some (.cells (flat d').toArray ty f) := by
  rw [MakeChecks.laidMetH_plain _ _ _ hpl] at h
  obtain ⟨ps, ⟨g1, t1, cs, fuel, p, q, hg1, ht1, hvar, hd, ⟨g2, t2, cs2, fuel2, p2, q2, hg2, ht2, hvar2, hd2, _, _⟩, _⟩, _⟩ := h
  obtain rfl := Option.some.inj (hg.symm.trans hg1)
  obtain rfl := Option.some.inj (hty.symm.trans ht1)
  obtain rfl := Option.some.inj (hg'.symm.trans hg2)
  obtain rfl := Option.some.inj (hty'.symm.trans ht2)
  have e := trod_flat n t hp _ _ _ hd
  have e2 := trod_flat n' t' hp' _ _ _ hd2
  refine ⟨?_, ?_⟩
  · unfold World.var? at hvar
    rw [hg] at hvar
    simp only [Option.bind_some] at hvar
    split at hvar
    · rename_i c ty f hh
      injection hvar with hvar
      subst hvar
      refine ⟨ty, f, ?_⟩
      rw [hh, ← show c.toList = flat d from e]
    · cases hvar
  · unfold World.var? at hvar2
    rw [hg'] at hvar2
    simp only [Option.bind_some] at hvar2
    split at hvar2
    · rename_i c ty f hh
      injection hvar2 with hvar2
      subst hvar2
      refine ⟨ty, f, ?_⟩
      rw [hh, ← show c.toList = flat d' from e2]
    · cases hvar2
def laidM : List (String × DataW Unit) := [("bellows/msg.mayHave", Rows.laid_bellows_msg_mayHave), ("bellows/agent.becomes", Rows.laid_bellows_agent_becomes)]
theorem gMay : Tryz.prog.globalNamed "bellows/msg.mayHave" = some 1 := by kernel_rfl
theorem tMay : (Tryz.prog.globals[1]?).map (·.type) = some 264 := by kernel_rfl
theorem gBec : Tryz.prog.globalNamed "bellows/agent.becomes" = some 0 := by kernel_rfl
theorem tBec : (Tryz.prog.globals[0]?).map (·.type) = some 227 := by kernel_rfl
theorem flatMay : flat (H := Unit) Rows.laid_bellows_msg_mayHave = tabL := by rfl
theorem flatBec : flat (H := Unit) Rows.laid_bellows_agent_becomes = tbL := by rfl
theorem tabs_of_laid {W : World} (h : laidMetH Tryz.prog laidM W) : Tabs W := by
  have := block_of_laid2 (n := 9) (n' := 9) gMay tMay (by kernel_rfl) gBec tBec (by kernel_rfl) (by kernel_rfl) h
  rw [flatMay, flatBec] at this
  exact this
theorem door_met (os : Os) (args : Array Value) : laidMetH Tryz.prog laidM ((World.doorLaid Tryz.prog 200 os).forCall (fun _ _ => 0) ⟨#[], args, []⟩).memory :=
  laidMetH_of_parts3 (fuel := 8) (laidMet_of_run' 8 (by kernel_rfl) (by kernel_rfl)) (by kernel_rfl) (by kernel_rfl)
theorem to_below {e : Ending} {W w' : World} (h : e = .returned (.bool true) ∧ Chg [] W w') : e = .returned (.bool true) ∧ Below W.heap.size W w' := ⟨h.1, h.2.below (Nat.le_refl _) (by simp)⟩
def kCfg : List Kd := [.int .i64, .int .i64, .int .i64, .int .i64, .int .i64, .int .i64, .int .i64]
theorem kinds_cfg : kinds Tryz.prog 9 23 = some kCfg := by kernel_rfl
theorem kinds_msts : kinds Tryz.prog 9 25 = some [.slice kMst] := by kernel_rfl
theorem cfg_cells {w : World} {cs : List Value} (h : AreKd w kCfg cs) : ∃ a b c d e f g : Int, cs = [.int .i64 a, .int .i64 b, .int .i64 c, .int .i64 d, .int .i64 e, .int .i64 f, .int .i64 g] := by
  obtain ⟨v0, c0, rfl, h0, hA⟩ := AreKd.head h
  obtain ⟨v1, c1, rfl, h1, hB⟩ := AreKd.head hA
  obtain ⟨v2, c2, rfl, h2, hC⟩ := AreKd.head hB
  obtain ⟨v3, c3, rfl, h3, hD⟩ := AreKd.head hC
  obtain ⟨v4, c4, rfl, h4, hE⟩ := AreKd.head hD
  obtain ⟨v5, c5, rfl, h5, hF⟩ := AreKd.head hE
  obtain ⟨v6, c6, rfl, h6, hG⟩ := AreKd.head hF
  obtain rfl := AreKd.done hG
  simp only [IsKd] at h0 h1 h2 h3 h4 h5 h6
  obtain ⟨a, rfl, _⟩ := h0
  obtain ⟨b, rfl, _⟩ := h1
  obtain ⟨c, rfl, _⟩ := h2
  obtain ⟨d, rfl, _⟩ := h3
  obtain ⟨e, rfl, _⟩ := h4
  obtain ⟨f, rfl, _⟩ := h5
  obtain ⟨g, rfl, _⟩ := h6
  exact ⟨a, b, c, d, e, f, g, rfl⟩
end Go.Proofs.YtadeoflkppiflaaGreatDoor
end
section
namespace Go.Proofs.YtadeoflkppiflaaGreatDoor
open Go.RowKit
set_option linter.unusedVariables false
set_option maxHeartbeats 1000000

/-! ### Hits -/
section
variable {c : Cg} {n : Nat} {S : Mst} {cur : Nat → List Int} (h : Inv c n S cur)
include h
/-- Who may read a line has its words. -/
theorem Inv.reads {j : Nat} (hj : j < c.co) {li : Int} (hs : (vw (atP S.ps j).s li).1 = 1 ∨ (vw (atP S.ps j).s li).1 = 2 ∨ (vw (atP S.ps j).s li).1 = 3 ∨ (vw (atP S.ps j).s li).1 = 6) :
    ∃ (i : Nat) (e : En), li = (i : Int) ∧ i < c.li ∧ S.en[i]? = some e ∧ (vw (atP S.ps j).s li).2 = cur i ∧ (e.ow = (j : Int) ∨ hasM e.sh j = true) ∧ (((vw (atP S.ps j).s li).1 = 2 ∨ (vw (atP S.ps j).s li).1 = 3) → e.ow = (j : Int)) ∧ ∀ p : Nat, e.ow = (p : Int) → e.sh = 0#8 := by
  have hp := h.pt j hj
  obtain ⟨l0, l1, _, _⟩ := hp.aj.line (li := li) (by omega)
  obtain ⟨i, rfl⟩ : ∃ i : Nat, li = (i : Int) := ⟨li.toNat, by omega⟩
  obtain ⟨e, he, hl⟩ := h.entry (i := i) (by omega)
  have hr := hl.rel j hj
  have hst : vst (atP S.ps j) i = 1 ∨ vst (atP S.ps j) i = 2 ∨ vst (atP S.ps j) i = 3 ∨ vst (atP S.ps j) i = 6 := by unfold vst; omega
  obtain ⟨a, b, d⟩ := hr.reads hst
  refine ⟨i, e, rfl, by omega, he, a, ?_, fun h2 => ?_, fun p hp => (LI.ow_ne hl hp).2.1⟩
  · rcases b with b | b
    · exact .inl (by simpa using b)
    · exact .inr b
  · have := d (by unfold vst; omega)
    simpa using this
theorem Inv.loadHit (k li wd : Int) (hh : (Go.Proofs.YtadeoflkppiflaaGreatDoor.loadM c S k li wd).2.hit = true) : inB k c.co = true ∧ inB li c.li = true ∧ isWd wd = true ∧ (Go.Proofs.YtadeoflkppiflaaGreatDoor.loadM c S k li wd).2.v = (cur li.toNat).getD wd.toNat 0 := by
  unfold Go.Proofs.YtadeoflkppiflaaGreatDoor.loadM at hh ⊢
  cases hp : portAt c S k with
  | none => rw [hp] at hh; exact absurd (show false = true from hh) (by decide)
  | some x =>
    rw [hp] at hh
    obtain ⟨j, rfl, hj, hx, hat, hP, hb⟩ := h.port hp
    dsimp only at hh ⊢
    by_cases hl : inB li c.li = true
    · rw [if_pos hl] at hh ⊢
      obtain ⟨_, _, hv⟩ := hP.aj.loadF (inB_iff.1 hl).2 wd
      obtain ⟨m1, m2, m3, m4⟩ := hv hh
      have hst : (vw (atP S.ps j).s li).1 = 1 ∨ (vw (atP S.ps j).s li).1 = 2 ∨ (vw (atP S.ps j).s li).1 = 3 ∨ (vw (atP S.ps j).s li).1 = 6 := by
        rw [hat]
        unfold mayR at m1
        rw [Bool.or_eq_true, rest_iff, beq_iff_eq] at m1
        omega
      obtain ⟨i, e, rfl, _, _, q, _⟩ := h.reads hj hst
      rw [hat] at q
      refine ⟨hb, hl, m2, ?_⟩
      rw [Int.toNat_natCast, ← q]
      exact m4
    · rw [if_neg hl] at hh
      exact absurd (show false = true from hh) (by decide)
end
theorem step_hit (c : Cg) (S : Mst) (kd co li wd v : Int) (h : (stepM c S kd co li wd v).2.hit = true) : kd = 0 ∨ kd = 1 ∨ kd = 2 := by
  by_cases h0 : kd = 0
  · exact .inl h0
  by_cases h1 : kd = 1
  · exact .inr (.inl h1)
  by_cases h2 : kd = 2
  · exact .inr (.inr h2)
  exfalso
  unfold stepM at h
  rw [if_neg h0, if_neg h1, if_neg h2] at h
  by_cases h3 : kd = 3
  · rw [if_pos h3, (flushM_did c S co li (4 + v % 2)).2.1] at h; cases h
  rw [if_neg h3] at h
  by_cases h4 : kd = 4
  · rw [if_pos h4, (upM_did c S co).2.1] at h; cases h
  rw [if_neg h4] at h
  by_cases h5 : kd = 5
  · rw [if_pos h5, (answerM_did c S co).2.1] at h; cases h
  rw [if_neg h5] at h
  by_cases h6 : kd = 6
  · rw [if_pos h6, (hearM_did c S co).2] at h; cases h
  rw [if_neg h6] at h
  by_cases h7 : kd = 7
  · rw [if_pos h7, (pushM_did c S li).2.1] at h; cases h
  rw [if_neg h7] at h
  by_cases h8 : kd = 8
  · rw [if_pos h8, (evictM_did c S co li).2.1] at h; cases h
  rw [if_neg h8] at h
  by_cases h9 : kd = 9
  · rw [if_pos h9, (dropM_did c S li).2.1] at h; cases h
  rw [if_neg h9] at h
  by_cases h10 : kd = 10
  · rw [if_pos h10, (drainM_did c S li).2.1] at h; cases h
  rw [if_neg h10] at h
  by_cases h11 : kd = 11
  · rw [if_pos h11] at h; cases h
  rw [if_neg h11] at h; cases h
/-! ### One word of one line -/
theorem ln_setW {n : Nat} {xs : List Int} (hx : xs.length = n * 8) {i d : Nat} (hi : i < n) (hd : d < 8) (v : Int) (j : Nat) : ln (xs.set (i * 8 + d) v) j = if j = i then (ln xs i).set d v else ln xs j := by
  apply List.ext_getElem?
  intro p
  unfold ln
  by_cases hj : j = i
  · subst hj
    rw [if_pos rfl, List.getElem?_set]
    by_cases hp : p < 8
    · rw [List.getElem?_take_of_lt hp, List.getElem?_drop, List.getElem?_set, List.getElem?_take_of_lt hp, List.getElem?_drop]
      by_cases hdp : d = p
      · subst hdp
        rw [if_pos rfl, if_pos rfl, if_pos (by omega), if_pos (by simp; omega)]
      · rw [if_neg (by omega), if_neg hdp]
    · rw [List.getElem?_take_eq_none (by omega), List.getElem?_take_eq_none (by omega), if_neg (by omega)]
  · rw [if_neg hj]
    by_cases hp : p < 8
    · rw [List.getElem?_take_of_lt hp, List.getElem?_drop, List.getElem?_set, List.getElem?_take_of_lt hp, List.getElem?_drop, if_neg (by omega)]
    · rw [List.getElem?_take_eq_none (by omega), List.getElem?_take_eq_none (by omega)]
theorem ln_cell {n : Nat} {xs : List Int} (hx : xs.length = n * 8) {i d : Nat} (hi : i < n) (hd : d < 8) : xs[i * 8 + d]? = some ((ln xs i).getD d 0) := by
  unfold ln
  rw [List.getD_eq_getElem?_getD, List.getElem?_take_of_lt hd, List.getElem?_drop, List.getElem?_eq_getElem (by omega)]
  rfl
theorem bk_cell {xs : List Int} {k : Nat} {v : Int} (h : xs[k]? = some v) (r : List Value) : (bk xs r)[k]? = some (.int .u64 v) := by
  obtain ⟨hk, rfl⟩ := List.getElem?_eq_some_iff.1 h
  unfold bk
  rw [List.getElem?_toArray, List.getElem?_append_left (by simpa using hk), List.getElem?_map, h]; rfl
theorem bk_set {xs : List Int} {k : Nat} (h : k < xs.length) (v : Int) (r : List Value) : (bk xs r).setIfInBounds k (.int .u64 v) = bk (xs.set k v) r := by
  unfold bk
  rw [List.setIfInBounds_toArray, List.set_append_left _ _ (by simpa using h), List.map_set]
end Go.Proofs.YtadeoflkppiflaaGreatDoor
end
section
namespace Go.Proofs.YtadeoflkppiflaaGreatDoor
open Go.RowKit
set_option linter.unusedVariables false
set_option maxHeartbeats 1000000
set_option maxRecDepth 100000
attribute [local go_sem ↓] append_appS copy_copS clear_clrS make_mkS cell_row frozen_row loadLine storeLine loadSlot storeSlot heap_drew heap_drewN heap_alloc heap_past heap_setCell heap_putRow vs_get slc_st slc_li slc_us slice_slS loadMsg storeMsg loadHas storeHas msc_kd msc_li msc_di msc_ke
attribute [local go_sem] rowCell_some rowFrozen_some rowHas_some rowIn_some rowPart_full rowPart_lit rowPut_full rowPut_lit rowSet_some size_putRow vs_size vs_one wideLine wideSlot run_loadS run_storeS run_appS run_copS run_clrS run_mkS loadW_at storeW_at fit_all fit_le one_int one_bool one_pointer one_slice allOne_list putRow_new ne_size1 ne_size2 ne_size3 ne_size4 zero8_length lines_nil line_eq lit8 slc_size slc_one slc_part slc_in fold_slt fold_slc slc_set_us wideMsg wideHas run_slS msc_size msc_one msc_part msc_in fold_msc msc_putDi msc_putKe msc_putX msc_has ms4_lit
attribute [local simp ↓] heap_drew heap_drewN heap_alloc heap_past heap_setCell heap_putRow
attribute [local simp] rowCell_some rowFrozen_some rowHas_some rowIn_some rowPart_full rowPart_lit rowPut_full rowPut_lit rowSet_some size_putRow vs_size fit_all putRow_new ne_size1 ne_size2 ne_size3 ne_size4 zero8_length slc_size msc_size msc_putDi msc_putKe msc_putX msc_has fit_le
attribute [local go_sem ↓] ec_he ec_di ec_ow ec_sh ec_bu ec_by ec_wa sc_to
attribute [local go_sem] mi_and mi_or mi_not mi_beq0 mi_bne0 ec_size ec_one ec_part ec_in ec_has ec_setDi ec_setOw ec_setSh ec_setBu ec_setBy ec_setWa ec_setSh0 ec_setWa0 ec_putM sc_size sc_one sc_part sc_in
attribute [local simp] ec_size sc_size ec_setDi ec_setOw ec_setSh ec_setBu ec_setBy ec_setWa ec_setSh0 ec_setWa0 ec_putM
attribute [local go_sem ↓] loadEn storeEn loadSd storeSd en_z0
attribute [local go_sem] wideEn wideSd fold_sc size11 putRow_newB putRow_newC ms5_lit
attribute [local simp] en_z0 putRow_newB putRow_newC fit_le ec_has



attribute [local go_sem ↓] mlitZ zenc_po zenc_en zenc_q
attribute [local simp] mlitZ

attribute [local go_sem ↓] mst_z0 storeMst loadMst mstc_0 mstc_1 mstc_2 mstc_3 mstc_4 loadCg cg_li cg_vo cg_qu cg_co0
attribute [local simp] mst_z0 mstc_sizeN cg_sizeN
attribute [local go_sem] fold_mst wideMst mstc_sizeN mstc_one mstc_part wideCg cg_sizeN cg_one cg_part
theorem mMesiOne_long (c0 c1 c2 c3 c4 c5 c6 : Int) (A : Option Addr) (N cN : Nat) (xs : List Value) (W : World) (hT : Tabs W) (hA : Sl W 5 A N xs) (hN : N ≤ maxLen) (hk : ∀ i, i < N → AreKd W kMst ((xs.drop (i * 5)).take 5)) (hl : 400 < N) : Calls Tryz.prog 5 #[.agg #[.int .i64 c0, .int .i64 c1, .int .i64 c2, .int .i64 c3, .int .i64 c4, .int .i64 c5, .int .i64 c6], .slice A N cN] W fun e w' => e = .returned (.bool true) ∧ Chg [] W w' := by
  unfold maxLen at hN
  have t0 : decide (400 < N) = true := by simpa using hl
  have t1 : decide ((400 : Int) < (N : Int)) = true := by simp; omega
  have HT := Lib.hid hT
  clear hT hA hk hl
  go_enter Tryz.func5, Tryz.ntmps5
  try dsimp only [List.append]
  go_wp2_with (first | (go_at_call 11; refine (mwakes _ (HT.out.keep0 (by (repeat' (first | with_reducible exact Chg.refl _ _ | with_reducible assumption | with_reducible refine Chg.drew ?_ | with_reducible refine Chg.drewN ?_ _ | with_reducible refine Chg.alloc ?_ _ | with_reducible refine Chg.putRow ?_ _ _ _ (.inr ?_) | with_reducible refine Chg.setCell ?_ _ _ _ (.inr ?_)  | (show _ ≤ _; first | exact Nat.le_refl _ | omega | (simp; done))))))).mono ?_; rintro e w2 ⟨rfl, cw2⟩))
  go_ret
  exact ⟨rfl, ((Chg.refl [] W).alloc _).trans cw2⟩
theorem mMesiOne_bad (c0 c1 c2 c3 c4 c5 c6 : Int) (A : Option Addr) (N cN : Nat) (xs : List Value) (W : World) (hT : Tabs W) (hA : Sl W 5 A N xs) (hN : N ≤ maxLen) (hk : ∀ i, i < N → AreKd W kMst ((xs.drop (i * 5)).take 5)) (hl : ¬ 400 < N) (hg : goodB c0 c1 c2 c3 c4 c5 c6 = false) : Calls Tryz.prog 5 #[.agg #[.int .i64 c0, .int .i64 c1, .int .i64 c2, .int .i64 c3, .int .i64 c4, .int .i64 c5, .int .i64 c6], .slice A N cN] W fun e w' => e = .returned (.bool true) ∧ Chg [] W w' := by
  unfold maxLen at hN
  have t0 : decide (400 < N) = false := by simpa using hl
  have t1 : decide ((400 : Int) < (N : Int)) = false := by simp; omega
  have HT := Lib.hid hT
  have HG := Lib.hid (fun w => mgood_false c0 c1 c2 c3 c4 c5 c6 w hg)
  clear hT hA hk hl hg
  go_enter Tryz.func5, Tryz.ntmps5
  try dsimp only [List.append]
  go_wp2_with (first | (go_at_call 17; refine (HG.out _).mono ?_; rintro e w1 ⟨rfl, cw1⟩))
  have C1 := Lib.hid (((Chg.refl [] W).alloc (.cells #[.int .i64 c0, .int .i64 c1, .int .i64 c2, .int .i64 c3, .int .i64 c4, .int .i64 c5, .int .i64 c6] 23)).trans cw1)
  clear cw1
  go_wp2_with fail
  refine (mwakes _ (HT.out.keep0 C1.out)).mono ?_
  rintro e w2 ⟨rfl, cw2⟩
  go_wp2_with fail
  go_ret
  exact ⟨rfl, C1.out.trans cw2⟩

/-! ### Who may write, who may read -/
def cwS (st : Int) : Nat := if st = 2 ∨ st = 3 then 1 else 0
def crS (st : Int) : Nat := if st = 1 ∨ st = 6 then 1 else 0
theorem cwS_le (st : Int) : cwS st ≤ 1 := by unfold cwS; split <;> omega
theorem crS_le (st : Int) : crS st ≤ 1 := by unfold crS; split <;> omega
def fqs (ys : List Slt) (li : Int) (q : Nat) : Slt := ((ys.take q).find? (fun y => y.li == li)).getD sltZ
theorem fqs_zero (ys : List Slt) (li : Int) : fqs ys li 0 = sltZ := rfl
theorem fqs_all (s : Sta) (li : Int) : fqs (live s.1) li (live s.1).length = findVal s.1 li := by
  unfold fqs; rw [List.take_length, find_live]
theorem fqs_skip {ys : List Slt} {li : Int} {q : Nat} {y : Slt} (h : ys[q]? = some y) (hy : y.li ≠ li) : fqs ys li (q + 1) = fqs ys li q := by
  obtain ⟨hq, rfl⟩ := List.getElem?_eq_some_iff.1 h
  unfold fqs
  rw [List.take_succ_eq_append_getElem hq, List.find?_append]
  have : List.find? (fun y : Slt => y.li == li) [ys[q]] = none := by simp [hy]
  rw [this, Option.or_none]
theorem fqs_take {ys : List Slt} {li : Int} {q : Nat} {y : Slt} (hu : ∀ (i j : Nat) (x y : Slt), ys[i]? = some x → ys[j]? = some y → i ≠ j → x.li ≠ y.li) (h : ys[q]? = some y) (hy : y.li = li) : fqs ys li q = sltZ ∧ fqs ys li (q + 1) = y := by
  have hn : (ys.take q).find? (fun y => y.li == li) = none := by
    rw [List.find?_eq_none]
    intro x hx
    obtain ⟨j, hj, rfl⟩ := List.mem_take_iff_getElem.1 hx
    have := hu j q _ y (List.getElem?_eq_getElem (by omega)) h (by omega)
    rw [hy] at this
    simpa using this
  obtain ⟨hq, rfl⟩ := List.getElem?_eq_some_iff.1 h
  refine ⟨by unfold fqs; rw [hn]; rfl, ?_⟩
  unfold fqs
  rw [List.take_succ_eq_append_getElem hq, List.find?_append, hn]
  simp [hy]
theorem enf_ow (e : En) (W : World) : (Instr.field 56 (.agg (ec e)) 3).run Tryz.prog W = .ok (.int .i64 e.ow) W := by
  obtain ⟨he, di, l, ow, sh, bu, by_, wa, h⟩ := e
  obtain ⟨a0, a1, a2, a3, a4, a5, a6, a7, rfl⟩ := eight h
  first | kernel_rfl | rfl
section
variable {c : Cg} {n : Nat} {S : Mst} {cur : Nat → List Int} (h : Inv c n S cur)
include h
theorem Inv.lone {i : Nat} (hi : i < c.li) : ∃ e, S.en[i]? = some e ∧
    (∀ j, j < c.co → cwS (vw (atP S.ps j).s i).1 = 1 → e.ow = (j : Int)) ∧
    (∀ j, j < c.co → crS (vw (atP S.ps j).s i).1 = 1 → (vw (atP S.ps j).s i).2 = cur i) ∧
    (∀ j k, j < c.co → k < c.co → cwS (vw (atP S.ps j).s i).1 = 1 → cwS (vw (atP S.ps k).s i).1 = 1 → j = k) ∧
    (∀ j k, j < c.co → k < c.co → cwS (vw (atP S.ps j).s i).1 = 1 → crS (vw (atP S.ps k).s i).1 = 1 → False) := by
  obtain ⟨e, he, hl⟩ := h.entry hi
  have hw : ∀ j, cwS (vw (atP S.ps j).s i).1 = 1 → (vw (atP S.ps j).s i).1 = 2 ∨ (vw (atP S.ps j).s i).1 = 3 := by
    intro j hj; unfold cwS at hj; split at hj
    · assumption
    · omega
  have hr : ∀ j, crS (vw (atP S.ps j).s i).1 = 1 → (vw (atP S.ps j).s i).1 = 1 ∨ (vw (atP S.ps j).s i).1 = 6 := by
    intro j hj; unfold crS at hj; split at hj
    · assumption
    · omega
  have hR : ∀ j, j < c.co → ((vw (atP S.ps j).s i).1 = 1 ∨ (vw (atP S.ps j).s i).1 = 2 ∨ (vw (atP S.ps j).s i).1 = 3 ∨ (vw (atP S.ps j).s i).1 = 6) → (vw (atP S.ps j).s i).2 = cur i ∧ (e.ow = (j : Int) ∨ hasM e.sh j = true) ∧ (((vw (atP S.ps j).s i).1 = 2 ∨ (vw (atP S.ps j).s i).1 = 3) → e.ow = (j : Int)) ∧ ∀ p : Nat, e.ow = (p : Int) → e.sh = 0#8 := by
    intro j hj hs
    obtain ⟨i2, e2, h1, _, h3, h4, h5, h6, h7⟩ := h.reads hj hs
    obtain rfl : i = i2 := by omega
    obtain rfl := Option.some.inj (he.symm.trans h3)
    exact ⟨h4, h5, h6, h7⟩
  have hO : ∀ j, j < c.co → cwS (vw (atP S.ps j).s i).1 = 1 → e.ow = (j : Int) := fun j hj hc => (hR j hj (by have := hw j hc; omega)).2.2.1 (hw j hc)
  refine ⟨e, he, hO, fun j hj hc => (hR j hj (by have := hr j hc; omega)).1, fun j k hj hk h1 h2 => ?_, fun j k hj hk h1 h2 => ?_⟩
  · have := hO j hj h1; have := hO k hk h2; omega
  · have h3 := hO j hj h1
    obtain ⟨_, h4, _, h5⟩ := hR k hk (by have := hr k h2; omega)
    rcases h4 with h4 | h4
    · obtain rfl : j = k := by omega
      have := hw j h1; have := hr j h2; omega
    · rw [h5 j h3, has_zero] at h4; cases h4
theorem Inv.uniq {j : Nat} (hj : j < c.co) : ∀ (p q : Nat) (x y : Slt), (live (atP S.ps j).s.1)[p]? = some x → (live (atP S.ps j).s.1)[q]? = some y → p ≠ q → x.li ≠ y.li :=
  fun p q x y hx hy hpq => ((h.pt j hj).aj.once.told p q x y hx hy hpq).1
end

attribute [local go_sem ↓] enf_ow
theorem mMesiOne_big (c : Cg) (hc : c.Ok) (A : Option Addr) (N cN : Nat) (xs : List Value) (W : World) (hT : Tabs W) (hA : Sl W 5 A N xs) (hN : N ≤ maxLen) (hl : ¬ 400 < N) (h16 : 16 < c.li) : Calls Tryz.prog 5 #[.agg c.cells, .slice A N cN] W fun e w' => e = .returned (.bool true) ∧ Chg [] W w' := by
  have t0 : decide (400 < N) = false := by simpa using hl
  have t1 : decide ((400 : Int) < (N : Int)) = false := decide_eq_false (by omega)
  have t2 : decide ((16 : Int) < (c.li : Int)) = true := decide_eq_true (by omega)
  have t3 : decide (16 < c.li) = true := decide_eq_true h16
  have HT := Lib.hid hT
  have HG := Lib.hid (fun w => mgood_true c hc w)
  unfold maxLen at hN
  clear hT hA hl hc h16
  go_enter Tryz.func5, Tryz.ntmps5
  try dsimp only [List.append]
  go_wp2_with fail
  refine (HG.out _).mono ?_
  rintro e w1 ⟨rfl, cw1⟩
  have C1 := Lib.hid (((Chg.refl [] W).alloc (.cells c.cells 23)).trans cw1)
  have r1 := cw1.keep (show (W.alloc (.cells c.cells 23)).heap[W.heap.size]? = some (.cells c.cells 23 (0, 0)) from new_blk _ _) List.not_mem_nil
  have o1 := old r1
  clear cw1
  go_wp2_with fail
  refine (mwakes _ (HT.out.keep0 C1.out)).mono ?_
  rintro e w2 ⟨rfl, cw2⟩
  go_wp2_with fail
  go_ret
  exact ⟨rfl, C1.out.trans cw2⟩
set_option maxHeartbeats 4000000 in
theorem mMesiOne_good (c : Cg) (hc : c.Ok) (A : Option Addr) (N cN : Nat) (xs : List Value) (W : World) (hT : Tabs W) (hA : Sl W 5 A N xs) (hN : N ≤ maxLen) (hk : ∀ i, i < N → AreKd W kMst ((xs.drop (i * 5)).take 5)) (hl : ¬ 400 < N) (h16 : ¬ 16 < c.li) : Calls Tryz.prog 5 #[.agg c.cells, .slice A N cN] W fun e w' => e = .returned (.bool true) ∧ Chg [] W w' := by
  have t0 : decide (400 < N) = false := by simpa using hl
  have t1 : decide ((400 : Int) < (N : Int)) = false := decide_eq_false (by omega)
  have t2 : decide ((16 : Int) < (c.li : Int)) = false := decide_eq_false (by omega)
  have t3 : decide (16 < c.li) = false := decide_eq_false h16
  have hN4 : N ≤ 400 := by omega
  have HT := Lib.hid hT
  have HA := Lib.hid hA
  have HK := Lib.hid hk
  have HCO := Lib.hid hc
  have HG := Lib.hid (fun w => mgood_true c hc w)
  have g64 : (c.li : Int) ≤ 64 := by have := hc.li64; omega
  have g8 : (c.co : Int) ≤ 8 := by have := hc.co8; omega
  clear hT hA hk hl hN hc h16
  go_enter Tryz.func5, Tryz.ntmps5
  try dsimp only [List.append]
  go_wp2_with fail
  refine (HG.out _).mono ?_
  rintro e w1 ⟨rfl, cw1⟩
  have C1 := Lib.hid (((Chg.refl [] W).alloc (.cells c.cells 23)).trans cw1)
  have r1 := cw1.keep (show (W.alloc (.cells c.cells 23)).heap[W.heap.size]? = some (.cells c.cells 23 (0, 0)) from new_blk _ _) List.not_mem_nil
  have o1 := old r1
  clear cw1
  go_wp2_with fail
  refine (mnew_none W _ c HCO.out C1.out none 0).mono ?_
  rintro e w2 ⟨sy, F, rfl, hm, hcc, hkk⟩
  have r2 := hcc.keep r1 List.not_mem_nil
  have M0 := Lib.hid (show MS W w2 c sy F ⟨List.replicate c.co (pt0 c), List.replicate c.li enE, [], List.replicate (c.li * 8) 0⟩ from hm)
  have I0 := Lib.hid (Inv.fresh c HCO.out (List.replicate (c.li * 8) 0) (by simp))
  have HF0 := Lib.hid (show ∀ k ∈ F, W.heap.size < k from fun k hk => Nat.lt_of_lt_of_le o1.lt (hkk k hk))
  clear hm hcc hkk r1 o1
  have o2 := old r2
  go_wp2_with fail
  go_loopw [7] (fun i wr => ∃ (k : Nat) (F : List Nat) (S : Mst) (cur : Nat → List Int), k ≤ N ∧ i = .int .i64 k ∧ MS W wr c sy F S ∧ Inv c k S cur ∧ (∀ b ∈ F, W.heap.size < b) ∧ wr.heap[W.heap.size]? = some (.cells c.cells 23 (0, 0))) (fun i _ => N - (intOf i).toNat)
  case atStart => exact ⟨0, F, _, _, by omega, rfl, M0.out, I0.out, HF0.out, r2⟩
  case round =>
    obtain ⟨k, F, S0, cur0, hkN, rfl, hm, hI, hF, hcf⟩ := hrel
    have HM := Lib.hid hm
    have HI := Lib.hid hI
    have HF := Lib.hid hF
    clear hm hI hF r2 o2 M0 I0 HF0
    have g0 : (0 : Int) ≤ (k : Int) := by omega
    by_cases hlt : k < N
    · have t4 : decide (k < N) = true := by simpa using hlt
      have g1 : (k : Int) < (N : Int) := by omega
      obtain ⟨ba, oa, rfl⟩ := HA.out.addr (by omega)
      obtain ⟨x, cs, t, f, hb, hi, hp, hv⟩ := mstep_row HA.out hlt (HK.out k hlt)
      have hbr := (Mem.chg HM.out).keep hb (by simp)
      have obr := old hbr
      have NB := Lib.hid (show W.heap.size ∉ F from fun h => Nat.lt_irrefl _ (HF.out _ h))
      have LTC := Lib.hid (old hcf).lt
      have HI1 := Lib.hid (HI.out.step x.kd x.co x.li x.wd x.v)
      have hop := Lib.hid (do_any HM.out HI.out (by omega) HT.out x hv)
      clear hb hv
      go_wp2_with fail
      clear hbr obr
      refine hop.out.mono ?_
      obtain ⟨d, hd⟩ : ∃ d, stepM c S0 x.kd x.co x.li x.wd x.v = d := ⟨_, rfl⟩
      rw [hd] at HI1 ⊢
      obtain ⟨S, dd⟩ := d
      dsimp only at HI1 ⊢
      obtain ⟨cur, hcur⟩ : ∃ cur, curM c S0 x.kd x.co x.li x.wd x.v cur0 = cur := ⟨_, rfl⟩
      rw [hcur] at HI1
      clear hd hcur hop
      unfold didV
      rintro e w5 ⟨rfl, m5⟩
      obtain ⟨F5, hm5, cw5, hk5⟩ := m5
      have HM5 := Lib.hid (show MS W w5 c sy F5 S from hm5)
      have hcf5 := cw5.keep hcf NB.out
      have HF5 := Lib.hid (show ∀ b ∈ F5, W.heap.size < b from fun b hb => by
        rcases hk5 b hb with h1 | h1
        · exact HF.out b h1
        · have h2 := LTC.out; omega)
      clear hm5 cw5 hk5 hcf
      have oc5 := old hcf5
      by_cases h3 : k % 3 = 0
      rotate_left
      · have tm : ((k : Int) % 3 != 0) = true := by simp; omega
        go_wp2_with fail
        go_roundw
        case rel => exact ⟨k + 1, F5, S, cur, by omega, by go_num, HM5.out, HI1.out, HF5.out, hcf5⟩
        case measure => simp [intOf]; omega
      have tm : ((k : Int) % 3 != 0) = false := by simp; omega
      clear h3
      go_wp2_with fail
      go_loopw [8] (fun i wy => ∃ ℓ : Nat, ℓ ≤ c.li ∧ i = .int .i64 ℓ ∧ Chg [] w5 wy) (fun i _ => c.li - (intOf i).toNat)
      case atStart => exact ⟨0, by omega, rfl, Chg.refl _ _⟩
      case round =>
        obtain ⟨ℓ, hℓ, rfl, hc5⟩ := hrel
        have hcfy := hc5.keep hcf5 List.not_mem_nil
        have HC5 := Lib.hid hc5
        clear hc5
        have ocy := old hcfy
        have gl0 : (0 : Int) ≤ (ℓ : Int) := by omega
        by_cases hll : ℓ < c.li
        · have gl1 : (ℓ : Int) < (c.li : Int) := by omega
          have tl : decide (ℓ < c.li) = true := decide_eq_true hll
          rename World => wy
          obtain ⟨e, he, l1, l2, l3, l4⟩ := HI1.out.lone hll
          have HE := Lib.hid he
          have L1 := Lib.hid l1
          have L2 := Lib.hid l2
          have L3 := Lib.hid l3
          have L4 := Lib.hid l4
          have CB := Lib.hid ((Chg.refl [] wy).alloc (.cells (vs [0, 0, 0, 0, 0, 0, 0, 0]) 36))
          have hdb : (wy.alloc (.cells (vs [0, 0, 0, 0, 0, 0, 0, 0]) 36)).heap[wy.heap.size]? = some (.cells (vs [0, 0, 0, 0, 0, 0, 0, 0]) 36 (0, 0)) := new_blk _ _
          have hcfb := CB.out.keep hcfy List.not_mem_nil
          have HMB := Lib.hid (show MS W (wy.alloc (.cells (vs [0, 0, 0, 0, 0, 0, 0, 0]) 36)) c sy F5 S from Mem.keep HM5.out (HC5.out.trans CB.out))
          have NDB := Lib.hid (show wy.heap.size ∉ F5 ∧ W.heap.size < wy.heap.size ∧ w5.heap.size ≤ wy.heap.size from ⟨fun h => Nat.lt_irrefl _ (Mem.old (Mem.keep HM5.out HC5.out) _ h), ocy.lt, HC5.out.size⟩)
          clear he l1 l2 l3 l4
          go_wp2_with fail
          clear hcfy ocy
          generalize wy.heap.size = bd at hdb NDB ⊢
          generalize wy.alloc (.cells (vs [0, 0, 0, 0, 0, 0, 0, 0]) 36) = wz at hdb hcfb HMB CB ⊢
          have LBZ := Lib.hid (old hdb).lt
          go_loopw [12, 9, 10] (fun i s9 s10 wk => ∃ (K wn rn : Nat) (dl : List Int), i = .int .i64 K ∧ s9 = .int .i64 wn ∧ s10 = .int .i64 rn ∧ Chg [bd] wz wk ∧ wk.heap[bd]? = some (.cells (vs dl) 36 (0, 0)) ∧ K ≤ c.co ∧ wn ≤ 1 ∧ rn ≤ K ∧ dl.length = 8 ∧ (wn = 1 → ∃ p, p < K ∧ cwS (vw (atP S.ps p).s ℓ).1 = 1) ∧ (0 < rn → (∃ p, p < K ∧ crS (vw (atP S.ps p).s ℓ).1 = 1) ∧ dl = cur ℓ)) (fun i _ _ _ => c.co - (intOf i).toNat)
          case atStart => exact ⟨0, 0, 0, [0, 0, 0, 0, 0, 0, 0, 0], rfl, rfl, rfl, Chg.refl _ _, hdb, by omega, by omega, by omega, rfl, fun h => by omega, fun h => by omega⟩
          case round =>
            obtain ⟨K, w0, r0, d0, rfl, rfl, rfl, hck, hdk, hKc, hw1, hrK, hd8, hPW, hPR⟩ := hrel
            have hcfk := hck.keep hcfb (by have := NDB.out.2.1; simp; omega)
            have HCK := Lib.hid hck
            have HPW := Lib.hid hPW
            have HPR := Lib.hid hPR
            have HMK := Lib.hid (show MS W wr c sy F5 S from Mem.keepL HMB.out hck (by simpa using NDB.out.1) (by have := NDB.out.2.1; simp; omega))
            clear hck hPW hPR hdb hcfb
            have ock := old hcfk
            have odk := old hdk
            have gk0 : (0 : Int) ≤ (K : Int) := by omega
            have gw : (w0 : Int) ≤ 1 := by omega
            have gr : (r0 : Int) ≤ 8 := by omega
            by_cases hKl : K < c.co
            · have gk1 : (K : Int) < (c.co : Int) := by omega
              have tK : decide (K < c.co) = true := decide_eq_true hKl
              go_wp2_with fail
              refine (yslots HMK.out HI1.out (K : Int) (inB_iff.2 ⟨gk0, gk1⟩)).mono ?_
              rw [Int.toNat_natCast]
              rintro e4 w4 ⟨A1, n1, rfl, hs1, cw4, hn1⟩
              have HU := Lib.hid (HI1.out.uniq hKl)
              have H64 := Lib.hid (HI1.out.live64 hKl)
              have HALL := Lib.hid (fqs_all (atP S.ps K).s (ℓ : Int))
              obtain ⟨ys, hys⟩ : ∃ ys, live (atP S.ps K).s.1 = ys := ⟨_, rfl⟩
              rw [hys] at hs1 HU H64 HALL ⊢
              obtain ⟨n, hn⟩ : ∃ n, ys.length = n := ⟨_, rfl⟩
              have HNN := Lib.hid hn
              rw [hn] at hs1 H64 HALL ⊢
              have hcf4 := cw4.keep hcfk List.not_mem_nil
              have hd4 := cw4.keep hdk List.not_mem_nil
              have HS1 := Lib.hid hs1
              have C4 := Lib.hid cw4
              have HNB := Lib.hid (show ∀ p, A1 = some p → p.block ≠ bd from fun p hp h => by have h1 := hn1 p hp; have h2 := odk.lt; omega)
              have gn : (n : Int) ≤ 64 := by have := H64.out; omega
              have HMK4 := Lib.hid (show MS W w4 c sy F5 S from Mem.keep HMK.out cw4)
              clear hs1 cw4 hn1 hys hn hcfk hdk ock odk
              have oc4 := old hcf4
              have od4 := old hd4
              go_wp2_with fail
              go_loopw [14, 9, 10] (fun i s9 s10 wq => ∃ (q wn rn : Nat) (dl : List Int), i = .int .i64 q ∧ s9 = .int .i64 wn ∧ s10 = .int .i64 rn ∧ Chg [bd] w4 wq ∧ wq.heap[bd]? = some (.cells (vs dl) 36 (0, 0)) ∧ q ≤ n ∧ wn = w0 + cwS (fqs ys ℓ q).st ∧ rn = r0 + crS (fqs ys ℓ q).st ∧ dl.length = 8 ∧ (crS (fqs ys ℓ q).st = 1 → dl = cur ℓ) ∧ (crS (fqs ys ℓ q).st = 0 → dl = d0)) (fun i _ _ _ => n - (intOf i).toNat)
              case atStart => exact ⟨0, w0, r0, d0, rfl, rfl, rfl, Chg.refl _ _, hd4, by omega, rfl, rfl, hd8, fun h => absurd h (by rw [fqs_zero]; decide), fun _ => rfl⟩
              case round =>
                obtain ⟨q, wn, rn, dl, rfl, rfl, rfl, hcq, hdq, hqn, hwn, hrn, hdl8, hPc, hPd⟩ := hrel
                have hcfq := hcq.keep hcf4 (by have := NDB.out.2.1; simp; omega)
                have HCQ := Lib.hid hcq
                have HPC := Lib.hid hPc
                have HPD := Lib.hid hPd
                have HWN := Lib.hid hwn
                have HRN := Lib.hid hrn
                have gq0 : (0 : Int) ≤ (q : Int) := by omega
                have gwn : (wn : Int) ≤ 2 := by have := cwS_le (fqs ys ℓ q).st; omega
                have grn : (rn : Int) ≤ 9 := by have := crS_le (fqs ys ℓ q).st; omega
                clear hPc hPd hwn hrn
                have ocq := old hcfq
                have odq := old hdq
                by_cases hql : q < n
                · have gq1 : (q : Int) < (n : Int) := by omega
                  have tq : decide (q < n) = true := decide_eq_true hql
                  obtain ⟨ab, ao, rfl⟩ := HS1.out.addr (by omega)
                  obtain ⟨y, hy⟩ : ∃ y, ys[q]? = some y := ⟨ys[q]'(by rw [HNN.out]; exact hql), List.getElem?_eq_getElem _⟩
                  obtain ⟨cs2, t2', f2, hb2, a0, a1, a2, a3, a4⟩ := slt_all HS1.out hcq (by simpa using HNB.out _ rfl) hql hy
                  have ob2 := old hb2
                  have HY := Lib.hid hy
                  clear hy hcq
                  by_cases hline : y.li = (ℓ : Int)
                  rotate_left
                  · have ty : (y.li != (ℓ : Int)) = true := by simpa using hline
                    have HSK := Lib.hid (fqs_skip HY.out hline)
                    clear hline
                    go_wp2_with fail
                    go_roundw
                    case rel => exact ⟨q + 1, wn, rn, dl, by go_num, rfl, rfl, HCQ.out, hdq, by omega, by rw [HSK.out]; exact HWN.out, by rw [HSK.out]; exact HRN.out, hdl8, by rw [HSK.out]; exact HPC.out, by rw [HSK.out]; exact HPD.out⟩
                    case measure => simp [intOf]; omega
                  have ty : (y.li != (ℓ : Int)) = false := by simpa using hline
                  have HTK := Lib.hid (fqs_take HU.out HY.out hline)
                  have HVW := Lib.hid (show vw (atP S.ps K).s (ℓ : Int) = (y.st, y.l) by
                    have h1 := HALL.out
                    have h2 : fqs ys ℓ n = y := by
                      have h3 : ∀ m, q + 1 + m ≤ n → fqs ys ℓ (q + 1 + m) = y := by
                        intro m
                        induction m with
                        | zero => intro _; exact HTK.out.2
                        | succ m ih =>
                          intro hm
                          obtain ⟨z, hz⟩ : ∃ z, ys[q + 1 + m]? = some z := ⟨ys[q + 1 + m]'(by rw [HNN.out]; omega), List.getElem?_eq_getElem _⟩
                          rw [← ih (by omega)]
                          exact fqs_skip hz (fun h => HU.out q (q + 1 + m) y z HY.out hz (by omega) (hline.trans h.symm))
                      have := h3 (n - (q + 1)) (by omega)
                      rw [show q + 1 + (n - (q + 1)) = n by omega] at this
                      exact this
                    unfold vw; rw [← h1, h2])
                  have HWE := Lib.hid (show wn = w0 by have h1 := HWN.out; rw [HTK.out.1] at h1; exact h1)
                  have HRE := Lib.hid (show rn = r0 by have h1 := HRN.out; rw [HTK.out.1] at h1; exact h1)
                  have HDE := Lib.hid (show dl = d0 from HPD.out (by rw [HTK.out.1]; rfl))
                  clear hline
                  have n1 : cs2.size = cs2.size := rfl
                  by_cases s2 : y.st = 2 ∨ y.st = 3
                  · have tso : (e.ow != (K : Int)) = false := by
                      have h1 := L1.out K hKl (by rw [HVW.out]; unfold cwS; rw [if_pos s2])
                      simpa using h1
                    have HST := Lib.hid s2
                    rcases s2 with s2 | s2
                    · have u1 : (y.st == 2) = true := by rw [s2]; rfl
                      clear s2
                      go_wp2_with fail
                      refine (mentry_ok (Mem.keepL HMK4.out HCQ.out (by simpa using NDB.out.1) (by have := NDB.out.2.1; simp; omega)) ℓ e HE.out).mono ?_
                      rintro e5 w6 ⟨rfl, cw6⟩
                      have HD6 := Lib.hid (cw6.keep hdq List.not_mem_nil)
                      have C6 := Lib.hid cw6
                      clear cw6 hb2 a0 a1 a2 a3 a4 ob2 hdq hcfq ocq odq
                      go_wp2_with fail
                      go_roundw
                      case rel => exact ⟨q + 1, wn + 1, rn, dl, by go_num, by go_num, rfl, HCQ.out.trans (C6.out.mono (by simp)), HD6.out, by omega, by rw [HTK.out.2, HWE.out]; unfold cwS; rw [if_pos HST.out], by rw [HTK.out.2, HRE.out]; unfold crS; have := HST.out; rw [if_neg (by omega), Nat.add_zero], hdl8, fun h => absurd h (by rw [HTK.out.2]; unfold crS; have := HST.out; rw [if_neg (by omega)]; decide), fun _ => HDE.out⟩
                      case measure => simp [intOf]; omega
                    · have u1 : (y.st == 2) = false := by rw [s2]; rfl
                      have u2 : (y.st == 3) = true := by rw [s2]; rfl
                      clear s2
                      go_wp2_with fail
                      refine (mentry_ok (Mem.keepL HMK4.out HCQ.out (by simpa using NDB.out.1) (by have := NDB.out.2.1; simp; omega)) ℓ e HE.out).mono ?_
                      rintro e5 w6 ⟨rfl, cw6⟩
                      have HD6 := Lib.hid (cw6.keep hdq List.not_mem_nil)
                      have C6 := Lib.hid cw6
                      clear cw6 hb2 a0 a1 a2 a3 a4 ob2 hdq hcfq ocq odq
                      go_wp2_with fail
                      go_roundw
                      case rel => exact ⟨q + 1, wn + 1, rn, dl, by go_num, by go_num, rfl, HCQ.out.trans (C6.out.mono (by simp)), HD6.out, by omega, by rw [HTK.out.2, HWE.out]; unfold cwS; rw [if_pos HST.out], by rw [HTK.out.2, HRE.out]; unfold crS; have := HST.out; rw [if_neg (by omega), Nat.add_zero], hdl8, fun h => absurd h (by rw [HTK.out.2]; unfold crS; have := HST.out; rw [if_neg (by omega)]; decide), fun _ => HDE.out⟩
                      case measure => simp [intOf]; omega
                  have u1 : (y.st == 2) = false := by simp; omega
                  have u2 : (y.st == 3) = false := by simp; omega
                  by_cases s1 : y.st = 1 ∨ y.st = 6
                  rotate_left
                  · have u3 : (y.st == 1) = false := by simp; omega
                    have u4 : (y.st == 6) = false := by simp; omega
                    have HST := Lib.hid (show ¬ (y.st = 2 ∨ y.st = 3) ∧ ¬ (y.st = 1 ∨ y.st = 6) from ⟨s2, s1⟩)
                    clear s1 s2
                    go_wp2_with fail
                    go_roundw
                    case rel => exact ⟨q + 1, wn, rn, dl, by go_num, rfl, rfl, HCQ.out, hdq, by omega, by rw [HTK.out.2, HWE.out]; unfold cwS; rw [if_neg HST.out.1, Nat.add_zero], by rw [HTK.out.2, HRE.out]; unfold crS; rw [if_neg HST.out.2, Nat.add_zero], hdl8, fun h => absurd h (by rw [HTK.out.2]; unfold crS; rw [if_neg HST.out.2]; decide), fun _ => HDE.out⟩
                    case measure => simp [intOf]; omega
                  have HYC := Lib.hid (show y.l = cur ℓ by
                    have h1 := L2.out K hKl (by rw [HVW.out]; unfold crS; rw [if_pos s1])
                    rw [HVW.out] at h1; exact h1)
                  have HST := Lib.hid (show ¬ (y.st = 2 ∨ y.st = 3) ∧ (y.st = 1 ∨ y.st = 6) from ⟨s2, s1⟩)
                  have hdle : 0 < rn → (y.l == dl) = true := fun h => by
                    rw [HDE.out, HYC.out, (HPR.out (by rw [← HRE.out]; exact h)).2]; simp
                  have HDLE := Lib.hid hdle
                  clear hdle s2
                  have he2 := fun V => line_eq y.l dl y.h hdl8 V
                  have HDQ := Lib.hid hdq
                  have hyl8 : y.l.length = 8 := y.h
                  have rh : rowHas (some (.cells (vs dl) 36 (0, 0))) 0 8 = true := by rw [rowHas_some, vs_size, hdl8]; exact decide_eq_true (show 0 + 8 ≤ 8 by omega)
                  have rp : rowPut (some (.cells (vs dl) 36 (0, 0))) 0 (vs y.l) = some (.cells (vs y.l) 36 (0, 0)) := rowPut_full _ _ _ _ (by rw [vs_size, vs_size, hdl8, hyl8])
                  rcases s1 with s1 | s1
                  · have u3 : (y.st == 1) = true := by rw [s1]; rfl
                    clear s1
                    by_cases hr0 : 0 < rn
                    · have td : decide (0 < rn) = true := decide_eq_true hr0
                      have td2 : decide ((0 : Int) < (rn : Int)) = true := decide_eq_true (by omega)
                      have te : (y.l == dl) = true := HDLE.out hr0
                      clear hr0
                      go_wp2_with fail
                      go_quiet (fail)
                      go_wp2_with fail
                      go_roundw
                      case rel =>
                        have HDN : (putRow (wr.drewN nq) bd 0 (vs y.l)).heap[bd]? = some (.cells (vs y.l) 36 (0, 0)) := by
                          rw [heap_putRow _ _ _ _ _ (by rw [heap_drewN, HDQ.out, vs_size, hyl8]; exact rh), if_pos rfl, heap_drewN, HDQ.out]; exact rp
                        exact ⟨q + 1, wn, rn + 1, y.l, by go_num, rfl, by go_num, ((HCQ.out.drewN _)).putRow _ _ _ (.inl (by simp)), HDN, by omega, by rw [HTK.out.2, HWE.out]; unfold cwS; rw [if_neg HST.out.1, Nat.add_zero], by rw [HTK.out.2, HRE.out]; unfold crS; rw [if_pos HST.out.2], y.h, fun _ => HYC.out, fun h => absurd h (by rw [HTK.out.2]; unfold crS; rw [if_pos HST.out.2]; decide)⟩
                      case measure => simp [intOf]; omega
                    · have td : decide (0 < rn) = false := decide_eq_false hr0
                      have td2 : decide ((0 : Int) < (rn : Int)) = false := decide_eq_false (by omega)
                      clear hr0
                      go_wp2_with fail
                      go_quiet (fail)
                      go_wp2_with fail
                      go_roundw
                      case rel =>
                        have HDN : (putRow (wr.drewN nq) bd 0 (vs y.l)).heap[bd]? = some (.cells (vs y.l) 36 (0, 0)) := by
                          rw [heap_putRow _ _ _ _ _ (by rw [heap_drewN, HDQ.out, vs_size, hyl8]; exact rh), if_pos rfl, heap_drewN, HDQ.out]; exact rp
                        exact ⟨q + 1, wn, rn + 1, y.l, by go_num, rfl, by go_num, ((HCQ.out.drewN _)).putRow _ _ _ (.inl (by simp)), HDN, by omega, by rw [HTK.out.2, HWE.out]; unfold cwS; rw [if_neg HST.out.1, Nat.add_zero], by rw [HTK.out.2, HRE.out]; unfold crS; rw [if_pos HST.out.2], y.h, fun _ => HYC.out, fun h => absurd h (by rw [HTK.out.2]; unfold crS; rw [if_pos HST.out.2]; decide)⟩
                      case measure => simp [intOf]; omega
                  · have u3 : (y.st == 1) = false := by rw [s1]; rfl
                    have u4 : (y.st == 6) = true := by rw [s1]; rfl
                    clear s1
                    by_cases hr0 : 0 < rn
                    · have td : decide (0 < rn) = true := decide_eq_true hr0
                      have td2 : decide ((0 : Int) < (rn : Int)) = true := decide_eq_true (by omega)
                      have te : (y.l == dl) = true := HDLE.out hr0
                      clear hr0
                      go_wp2_with fail
                      go_quiet (fail)
                      go_wp2_with fail
                      go_roundw
                      case rel =>
                        have HDN : (putRow (wr.drewN nq) bd 0 (vs y.l)).heap[bd]? = some (.cells (vs y.l) 36 (0, 0)) := by
                          rw [heap_putRow _ _ _ _ _ (by rw [heap_drewN, HDQ.out, vs_size, hyl8]; exact rh), if_pos rfl, heap_drewN, HDQ.out]; exact rp
                        exact ⟨q + 1, wn, rn + 1, y.l, by go_num, rfl, by go_num, ((HCQ.out.drewN _)).putRow _ _ _ (.inl (by simp)), HDN, by omega, by rw [HTK.out.2, HWE.out]; unfold cwS; rw [if_neg HST.out.1, Nat.add_zero], by rw [HTK.out.2, HRE.out]; unfold crS; rw [if_pos HST.out.2], y.h, fun _ => HYC.out, fun h => absurd h (by rw [HTK.out.2]; unfold crS; rw [if_pos HST.out.2]; decide)⟩
                      case measure => simp [intOf]; omega
                    · have td : decide (0 < rn) = false := decide_eq_false hr0
                      have td2 : decide ((0 : Int) < (rn : Int)) = false := decide_eq_false (by omega)
                      clear hr0
                      go_wp2_with fail
                      go_quiet (fail)
                      go_wp2_with fail
                      go_roundw
                      case rel =>
                        have HDN : (putRow (wr.drewN nq) bd 0 (vs y.l)).heap[bd]? = some (.cells (vs y.l) 36 (0, 0)) := by
                          rw [heap_putRow _ _ _ _ _ (by rw [heap_drewN, HDQ.out, vs_size, hyl8]; exact rh), if_pos rfl, heap_drewN, HDQ.out]; exact rp
                        exact ⟨q + 1, wn, rn + 1, y.l, by go_num, rfl, by go_num, ((HCQ.out.drewN _)).putRow _ _ _ (.inl (by simp)), HDN, by omega, by rw [HTK.out.2, HWE.out]; unfold cwS; rw [if_neg HST.out.1, Nat.add_zero], by rw [HTK.out.2, HRE.out]; unfold crS; rw [if_pos HST.out.2], y.h, fun _ => HYC.out, fun h => absurd h (by rw [HTK.out.2]; unfold crS; rw [if_pos HST.out.2]; decide)⟩
                      case measure => simp [intOf]; omega
                · obtain rfl : q = n := by omega
                  have tq : decide (q < q) = false := by simp
                  rename World => wq
                  have HSTK := Lib.hid (show (fqs ys ℓ q).st = (vw (atP S.ps K).s (ℓ : Int)).1 by rw [HALL.out]; rfl)
                  go_wp2_with fail
                  go_roundw
                  case rel =>
                    have hc1 := cwS_le (vw (atP S.ps K).s (ℓ : Int)).1
                    have hc2 := crS_le (vw (atP S.ps K).s (ℓ : Int)).1
                    have hwn := HWN.out
                    have hrn := HRN.out
                    have hpc := HPC.out
                    have hpd := HPD.out
                    rw [HSTK.out] at hwn hrn hpc hpd
                    have hno : cwS (vw (atP S.ps K).s (ℓ : Int)).1 = 1 → w0 = 0 := by
                      intro h1
                      by_cases h2 : w0 = 1
                      · obtain ⟨p, hp1, hp2⟩ := HPW.out h2
                        have := L3.out p K (by omega) hKl hp2 h1
                        omega
                      · omega
                    refine ⟨K + 1, wn, rn, dl, by go_num, rfl, rfl, (HCK.out.trans (C4.out.mono (by simp))).trans HCQ.out, hdq, by omega, ?_, by omega, hdl8, fun h1 => ?_, fun h1 => ?_⟩
                    · by_cases h2 : cwS (vw (atP S.ps K).s (ℓ : Int)).1 = 1
                      · have := hno h2; omega
                      · omega
                    · by_cases h2 : cwS (vw (atP S.ps K).s (ℓ : Int)).1 = 1
                      · exact ⟨K, by omega, h2⟩
                      · obtain ⟨p, hp1, hp2⟩ := HPW.out (by omega)
                        exact ⟨p, by omega, hp2⟩
                    · by_cases h2 : crS (vw (atP S.ps K).s (ℓ : Int)).1 = 1
                      · exact ⟨⟨K, by omega, h2⟩, hpc h2⟩
                      · obtain ⟨⟨p, hp1, hp2⟩, hp3⟩ := HPR.out (by omega)
                        exact ⟨⟨p, by omega, hp2⟩, (hpd (by omega)).trans hp3⟩
                  case measure => simp [intOf]; omega
            · obtain rfl : K = c.co := by omega
              have tK : decide (c.co < c.co) = false := by simp
              have tw : decide ((1 : Int) < (w0 : Int)) = false := decide_eq_false (by omega)
              have tw' : decide (1 < w0) = false := decide_eq_false (by omega)
              rename World => wk
              by_cases hw : w0 = 1
              · have hr : r0 = 0 := by
                  by_cases h2 : r0 = 0
                  · exact h2
                  · exfalso
                    obtain ⟨p, hp1, hp2⟩ := HPW.out hw
                    obtain ⟨⟨p2, hp3, hp4⟩, _⟩ := HPR.out (by omega)
                    exact L4.out p p2 hp1 hp3 hp2 hp4
                subst hw hr
                go_wp2_with fail
                go_roundw
                case rel => exact ⟨ℓ + 1, by omega, by go_num, (HC5.out.trans CB.out).trans' HCK.out (by have := NDB.out.2.2; simp; omega)⟩
                case measure => simp [intOf]; omega
              · obtain rfl : w0 = 0 := by omega
                go_wp2_with fail
                go_roundw
                case rel => exact ⟨ℓ + 1, by omega, by go_num, (HC5.out.trans CB.out).trans' HCK.out (by have := NDB.out.2.2; simp; omega)⟩
                case measure => simp [intOf]; omega
        · obtain rfl : ℓ = c.li := by omega
          have tl : decide (c.li < c.li) = false := by simp
          go_wp2_with fail
          go_roundw
          case rel => exact ⟨k + 1, F5, S, cur, by omega, by go_num, Mem.keep HM5.out HC5.out, HI1.out, HF5.out, hcfy⟩
          case measure => simp [intOf]; omega
    · obtain rfl : k = N := by omega
      have t4 : decide (k < k) = false := by simp
      go_wp2_with fail
      refine (mwakes _ (HT.out.keep0 (Mem.chg HM.out))).mono ?_
      rintro e w4 ⟨rfl, cw4⟩
      go_wp2_with fail
      go_ret
      exact ⟨rfl, (Mem.chg HM.out).trans cw4⟩
theorem mMesiOne_any (c0 c1 c2 c3 c4 c5 c6 : Int) (A : Option Addr) (N cN : Nat) (xs : List Value) (W : World) (hT : Tabs W) (hA : Sl W 5 A N xs) (hN : N ≤ maxLen) (hk : ∀ i, i < N → AreKd W kMst ((xs.drop (i * 5)).take 5)) : Calls Tryz.prog 5 #[.agg #[.int .i64 c0, .int .i64 c1, .int .i64 c2, .int .i64 c3, .int .i64 c4, .int .i64 c5, .int .i64 c6], .slice A N cN] W fun e w' => e = .returned (.bool true) ∧ Chg [] W w' := by
  by_cases hl : 400 < N
  · exact mMesiOne_long c0 c1 c2 c3 c4 c5 c6 A N cN xs W hT hA hN hk hl
  · cases hg : goodB c0 c1 c2 c3 c4 c5 c6
    · exact mMesiOne_bad c0 c1 c2 c3 c4 c5 c6 A N cN xs W hT hA hN hk hl hg
    · obtain ⟨c, hc, rfl, rfl, rfl, rfl, rfl, rfl, rfl⟩ := cg_of hg
      by_cases h16 : 16 < c.li
      · exact mMesiOne_big c hc A N cN xs W hT hA hN hl h16
      · exact mMesiOne_good c hc A N cN xs W hT hA hN hk hl h16
end Go.Proofs.YtadeoflkppiflaaGreatDoor
end
