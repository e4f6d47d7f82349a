/- Mgm: walked. No condition. -/
import Derived.Test.YtadeoflkppiflaaGreatDoorMgx
import Derived.BigQuiet
import Derived.Deep.RegionWith
import Derived.Deep.RegionHeld3
import Derived.Deep.QuietTactic
import Derived.Deep.Cut
import Derived.Deep.CutBlock
import Derived.Deep.CutRange
import Derived.Deep.DeepCutAuto
namespace Go.Proofs.YtadeoflkppiflaaGreatDoor
open Go.RowKit
set_option linter.unusedVariables false
set_option maxHeartbeats 1000000
set_option maxRecDepth 100000
attribute [local go_sem ↓] append_appS copy_copS clear_clrS make_mkS cell_row frozen_row loadLine storeLine loadSlot storeSlot heap_drew heap_drewN heap_alloc heap_past heap_setCell heap_putRow vs_get slc_st slc_li slc_us slice_slS loadMsg storeMsg loadHas storeHas msc_kd msc_li msc_di msc_ke
attribute [local go_sem] rowCell_some rowFrozen_some rowHas_some rowIn_some rowPart_full rowPart_lit rowPut_full rowPut_lit rowSet_some size_putRow vs_size vs_one wideLine wideSlot run_loadS run_storeS run_appS run_copS run_clrS run_mkS loadW_at storeW_at fit_all fit_le one_int one_bool one_pointer one_slice allOne_list putRow_new ne_size1 ne_size2 ne_size3 ne_size4 zero8_length lines_nil line_eq lit8 slc_size slc_one slc_part slc_in fold_slt fold_slc slc_set_us wideMsg wideHas run_slS msc_size msc_one msc_part msc_in fold_msc msc_putDi msc_putKe msc_putX msc_has ms4_lit
attribute [local simp ↓] heap_drew heap_drewN heap_alloc heap_past heap_setCell heap_putRow
attribute [local simp] rowCell_some rowFrozen_some rowHas_some rowIn_some rowPart_full rowPart_lit rowPut_full rowPut_lit rowSet_some size_putRow vs_size fit_all putRow_new ne_size1 ne_size2 ne_size3 ne_size4 zero8_length slc_size msc_size msc_putDi msc_putKe msc_putX msc_has fit_le
attribute [local go_sem ↓] ec_he ec_di ec_ow ec_sh ec_bu ec_by ec_wa sc_to
attribute [local go_sem] mi_and mi_or mi_not mi_beq0 mi_bne0 ec_size ec_one ec_part ec_in ec_has ec_setDi ec_setOw ec_setSh ec_setBu ec_setBy ec_setWa ec_setSh0 ec_setWa0 ec_putM sc_size sc_one sc_part sc_in
attribute [local simp] ec_size sc_size ec_setDi ec_setOw ec_setSh ec_setBu ec_setBy ec_setWa ec_setSh0 ec_setWa0 ec_putM
attribute [local go_sem ↓] loadEn storeEn loadSd storeSd en_z0
attribute [local go_sem] wideEn wideSd fold_sc size11 putRow_newB putRow_newC ms5_lit
attribute [local simp] en_z0 putRow_newB putRow_newC fit_le ec_has



attribute [local go_sem ↓] mlitZ zenc_po zenc_en zenc_q
attribute [local simp] mlitZ

attribute [local go_sem ↓] loadCg cg_li cg_vo cg_qu
attribute [local go_sem] wideCg cg_size cg_one cg_part fold_cg fold_cg0 sysZ_put sysZ_size
theorem znew_img (W w : World) (c : Cg) (hc : c.Ok) (hW : Chg [] W w) (A : Option Addr) (nc : Nat) (ys : List Int) (hs : Sl w 8 A c.li (ys.map (Value.int .u64))) : Calls Tryz.prog 12 #[.agg c.cells, .slice A c.li nc] w (MadeSys W w c (forget ys c.vo)) := by
  have HC := Lib.hid hc
  have HW := Lib.hid hW
  have HSL := Lib.hid hs
  have tl0 : ((c.li : Int) != 0) = true := by have := hc.li2; simp; omega
  have tl1 : ((c.li : Int) != (c.li : Int)) = false := by simp
  clear hc hW hs
  go_enter Tryz.func12, Tryz.ntmps12
  try dsimp only [List.append]
  go_wp2_with fail
  have r1 : (w.alloc (.cells c.cells 23)).heap[w.heap.size]? = some (.cells c.cells 23 (0, 0)) := by simp
  have C1 := Lib.hid ((Chg.refl [] w).alloc (.cells c.cells 23))
  refine (zgood_at c HC.out _).mono ?_
  rintro e w2 ⟨rfl, c2⟩
  replace r1 := c2.keep r1 List.not_mem_nil
  have o1 := old r1
  have C2 := Lib.hid (C1.out.trans c2)
  clear C1 c2
  have NB0 := Lib.hid (show w.heap.size ≠ w2.heap.size from Nat.ne_of_lt o1.lt)
  generalize w.heap.size = b1 at r1 o1 NB0 ⊢
  go_wp2_with fail
  refine (new_ok c.li c.vo w2 HC.out.li2 HC.out.li64 HC.out.vo1 HC.out.vol).mono ?_
  rintro e w3 ⟨rfl, c3, hdev, hsz⟩
  replace r1 := c3.keep r1 List.not_mem_nil
  replace o1 := old r1
  have C3 := Lib.hid (C2.out.trans c3)
  have HD := Lib.hid hdev
  have HL := Lib.hid C2.out.size
  have HGB := Lib.hid (show w.heap.size ≤ w2.heap.size + 1 ∧ w.heap.size ≤ w2.heap.size from ⟨by have := C2.out.size; omega, C2.out.size⟩)
  have NB1 := Lib.hid (show b1 ≠ w2.heap.size from NB0.out)
  have HBB := Lib.hid (show w.heap.size ≤ w2.heap.size from C2.out.size)
  generalize w2.heap.size + 1 = g at HD HGB ⊢
  generalize w2.heap.size = b at HD HL HGB NB1 HBB
  clear c3 hsz
  have HG := Lib.hid (show w.heap.size ≤ g ∧ w.heap.size ≤ b from HGB.out)
  go_wp2_with fail
  refine (restore_ok g b c.li c.vo _ ys A nc w3 HD.out (HSL.out.chg C3.out (by simp))).mono ?_
  rintro e wr ⟨rfl, cr, dr⟩
  have CR := Lib.hid (C3.out.trans' cr (fun x hx => .inr (by rw [List.mem_singleton.1 hx]; exact HBB.out)))
  have DR := Lib.hid dr
  replace r1 := cr.keep r1 (by simpa using NB1.out)
  replace o1 := old r1
  clear cr dr
  go_wp2_with fail
  refine (fail_ok g b c.li c.vo ys wr DR.out).mono ?_
  rintro e wf ⟨rfl, cf, df⟩
  have CF := Lib.hid (CR.out.trans' cf (fun x hx => .inr (by rw [List.mem_singleton.1 hx]; exact HBB.out)))
  have DF := Lib.hid df
  replace r1 := cf.keep r1 (by simpa using NB1.out)
  replace o1 := old r1
  clear cf df
  go_wp2_with fail
  refine (wsys_new W c.li c.vo c.qu wf g b _ (HW.out.trans CF.out) DF.out (Nat.le_trans HW.out.size HG.out.1) (Nat.le_trans HW.out.size HG.out.2) HC.out.qu1 HC.out.qu16).mono ?_
  rintro e w4 ⟨q, rfl, hsys, c4, hq⟩
  replace r1 := c4.keep r1 List.not_mem_nil
  replace o1 := old r1
  have HS4 := Lib.hid hsys
  have HQ := Lib.hid hq
  have C4 := Lib.hid (CF.out.trans c4)
  clear hsys hq c4
  go_upto_region 9 with fail
  have rS : (w4.alloc (.cells (sysZ c (some q)) 95)).heap[w4.heap.size]? = some (.cells (sysZ c (some q)) 95 (0, 0)) := new_blk _ _
  have K5 := Lib.hid ((Chg.refl [] w4).alloc (.cells (sysZ c (some q)) 95))
  have NS := Lib.hid (Nat.le_refl w4.heap.size)
  have NQ := Lib.hid (show q < w4.heap.size ∧ g < w4.heap.size ∧ b < w4.heap.size from ⟨HS4.out.2.1.oldq.lt, HS4.out.2.2.1.oldg, HS4.out.2.2.1.oldb⟩)
  have SY0 := Lib.hid C4.out.size
  have HSZ := Lib.hid (show w4.heap.size ≤ (w4.alloc (.cells (sysZ c (some q)) 95)).heap.size by simp)
  generalize w4.heap.size = sy at rS NS NQ SY0 HSZ ⊢
  generalize w4.alloc (.cells (sysZ c (some q)) 95) = w5 at rS K5 HSZ ⊢
  have hf := forget_ok W w5 c HC.out sy (sysZ c (some q)) ((HW.out.trans C4.out).trans K5.out) (Nat.le_trans HW.out.size SY0.out) rS rfl rfl rfl rfl _ _ rfl rfl
  have HF := Lib.hid hf
  have HRS := Lib.hid rS
  clear hf rS r1 o1
  go_wp2_with fail
  refine HF.out.mono ?_
  rintro e w6 ⟨rfl, hfr⟩
  have hS5 := HS4.out.keep K5.out
  have hap := HS4.out.2.2.2.1
  have hgb : g ≠ b := by obtain ⟨_, _, _, _, _, _, _, h⟩ := HS4.out.2.2.1; exact h
  have hnd : ([sy, q, g, b] ++ opt q q).Nodup := by
    have h1 := NQ.out
    obtain ⟨a1, a2, a3, a4⟩ := hap
    simp [opt]
    omega
  obtain ⟨po, en, L, hm, hp, hc6, hk6⟩ := msd_fresh (z := ⟨sy, q, q, g, b, 0, 0, List.replicate 6 0⟩) (fun po en => sysZ_enc c q ⟨sy, q, q, g, b, po, en, List.replicate 6 0⟩ rfl rfl) ((HW.out.trans C4.out).trans K5.out) HRS.out (Nat.le_trans HW.out.size SY0.out) (by simp) hS5 hnd hfr
  have HFIN := Lib.hid (show MadeSys W w c (forget ys c.vo) (.returned (.tuple #[.pointer (some ⟨sy, 0, none⟩), .int .i64 0])) w6 by
    refine ⟨⟨sy, q, q, g, b, po, en, List.replicate 6 0⟩, L, rfl, hm, hp, ((C4.out.trans K5.out).mono (by simp)).trans' hc6 (fun x hx => .inr (by rw [List.mem_singleton.1 hx]; exact SY0.out)), ?_⟩
    intro k hk
    have h1 := HQ.out
    have h2 := HG.out
    have h3 := CF.out.size
    have h4 := SY0.out
    have h5 := C4.out.size
    have h6 := K5.out.size
    rcases hk6 k hk with h | h
    · simp [opt] at h
      omega
    · have := HSZ.out
      omega)
  clear hfr hm hp hc6 hk6 hnd hS5
  go_wp2_with fail
  go_ret2
  exact HFIN.out

/-- A system that was made, with an image. -/
theorem mnew_img (W w : World) (c : Cg) (hc : c.Ok) (hW : Chg [] W w) (A : Option Addr) (nc : Nat) (ys : List Int) (hs : Sl w 8 A c.li (ys.map (Value.int .u64))) : Calls Tryz.prog 12 #[.agg c.cells, .slice A c.li nc] w fun e w' => ∃ sy F, e = .returned (.tuple #[.pointer (some ⟨sy, 0, none⟩), .int .i64 0]) ∧ Mem W w' c sy F (List.replicate c.co (pt0 c)) (List.replicate c.li enE) [] (forget ys c.vo) ∧ Chg [] w w' ∧ ∀ k ∈ F, w.heap.size ≤ k :=
  (znew_img W w c hc hW A nc ys hs).mono fun e w' ⟨z, L, he, hm, hp, hc, hk⟩ => ⟨z.sy, z.all L, he, ⟨z, L, rfl, rfl, hp, hm⟩, hc, hk⟩
end Go.Proofs.YtadeoflkppiflaaGreatDoor
