/- Texts of the walk, one behind the other: Ptd. No condition. -/
import Derived.Test.YtadeoflkppiflaaGreatDoorOas
import Derived.BigQuiet
import Derived.Deep.Cut
import Derived.Deep.CutBlock
import Derived.Deep.CutRange
import Derived.Deep.DeepCutAuto
import Derived.Deep.QuietTactic
import Derived.Deep.RegionHeld3
import Derived.Deep.RegionWith
import Derived.StillTailTactics
section
namespace Go.Proofs.YtadeoflkppiflaaGreatDoor
open Go.RowKit
set_option linter.unusedVariables false
set_option maxHeartbeats 1000000
set_option maxRecDepth 100000
attribute [local go_sem ↓] append_appS copy_copS clear_clrS make_mkS cell_row frozen_row loadLine storeLine loadSlot storeSlot heap_drew heap_drewN heap_alloc heap_past heap_setCell heap_putRow vs_get slc_st slc_li slc_us slice_slS loadMsg storeMsg loadHas storeHas msc_kd msc_li msc_di msc_ke
attribute [local go_sem] rowCell_some rowFrozen_some rowHas_some rowIn_some rowPart_full rowPart_lit rowPut_full rowPut_lit rowSet_some size_putRow vs_size vs_one wideLine wideSlot run_loadS run_storeS run_appS run_copS run_clrS run_mkS loadW_at storeW_at fit_all fit_le one_int one_bool one_pointer one_slice allOne_list putRow_new ne_size1 ne_size2 ne_size3 ne_size4 zero8_length lines_nil line_eq lit8 slc_size slc_one slc_part slc_in fold_slt fold_slc slc_set_us wideMsg wideHas run_slS msc_size msc_one msc_part msc_in fold_msc msc_putDi msc_putKe msc_putX msc_has ms4_lit
attribute [local simp ↓] heap_drew heap_drewN heap_alloc heap_past heap_setCell heap_putRow
attribute [local simp] rowCell_some rowFrozen_some rowHas_some rowIn_some rowPart_full rowPart_lit rowPut_full rowPut_lit rowSet_some size_putRow vs_size fit_all putRow_new ne_size1 ne_size2 ne_size3 ne_size4 zero8_length slc_size msc_size msc_putDi msc_putKe msc_putX msc_has fit_le
attribute [local go_sem ↓] ec_he ec_di ec_ow ec_sh ec_bu ec_by ec_wa sc_to
attribute [local go_sem] mi_and mi_or mi_not mi_beq0 mi_bne0 ec_size ec_one ec_part ec_in ec_has ec_setDi ec_setOw ec_setSh ec_setBu ec_setBy ec_setWa ec_setSh0 ec_setWa0 ec_putM sc_size sc_one sc_part sc_in
attribute [local simp] ec_size sc_size ec_setDi ec_setOw ec_setSh ec_setBu ec_setBy ec_setWa ec_setSh0 ec_setWa0 ec_putM
attribute [local go_sem ↓] loadEn storeEn loadSd storeSd en_z0
attribute [local go_sem] wideEn wideSd fold_sc size11 putRow_newB putRow_newC ms5_lit
attribute [local simp] en_z0 putRow_newB putRow_newC fit_le ec_has



attribute [local go_sem ↓] mlitZ zenc_po zenc_en zenc_q
attribute [local simp] mlitZ

attribute [local go_sem ↓] mst_z0 storeMst loadMst mstc_0 mstc_1 mstc_2 mstc_3 mstc_4 loadCg cg_li cg_vo cg_qu cg_co0
attribute [local simp] mst_z0 mstc_sizeN cg_sizeN
attribute [local go_sem] fold_mst wideMst mstc_sizeN mstc_one mstc_part wideCg cg_sizeN cg_one cg_part

theorem enf_di (e : En) (W : World) : (Instr.field 56 (.agg (ec e)) 1).run Tryz.prog W = .ok (.bool e.di) W := by
  obtain ⟨he, di, l, ow, sh, bu, by_, wa, h⟩ := e
  obtain ⟨a0, a1, a2, a3, a4, a5, a6, a7, rfl⟩ := eight h
  first | kernel_rfl | rfl
theorem enf_he (e : En) (W : World) : (Instr.field 56 (.agg (ec e)) 0).run Tryz.prog W = .ok (.bool e.he) W := by
  obtain ⟨he, di, l, ow, sh, bu, by_, wa, h⟩ := e
  obtain ⟨a0, a1, a2, a3, a4, a5, a6, a7, rfl⟩ := eight h
  first | kernel_rfl | rfl
theorem mst_build (k i d v : Int) : ((((mstc mstZ).setIfInBounds 1 (.int .i64 k)).setIfInBounds 2 (.int .i64 i)).setIfInBounds 3 (.int .i64 d)).setIfInBounds 4 (.int .u64 v) = mstc ⟨0, k, i, d, v⟩ := rfl
attribute [local go_sem ↓] enf_di enf_he mst_build
def pmodn (a : Int) (n : Nat) : Nat := (a % (n : Int)).toNat
theorem pmodn_lt (a : Int) (n : Nat) (h : 1 ≤ n) : pmodn a n < n := by
  unfold pmodn
  have := Int.emod_lt_of_pos a (show (0 : Int) < (n : Int) by omega)
  have := Int.emod_nonneg a (show (n : Int) ≠ 0 by omega)
  omega
theorem pmod_ok (a : Int) (n : Nat) (h1 : 1 ≤ n) (h2 : n ≤ 1000000) (w : World) : Calls Tryz.prog 26 #[.int .i64 a, .int .i64 n] w fun e w' => e = .returned (.int .i64 (pmodn a n)) ∧ w = w' := by
  have hn0 : (n : Int) ≠ 0 := by omega
  have g1 : (1 : Int) ≤ (n : Int) := by omega
  have g2 : (n : Int) ≤ 1000000 := by omega
  have b1 : -(n : Int) < a.tmod n := by
    have := Int.lt_tmod_of_pos a (show (0 : Int) < (n : Int) by omega)
    omega
  have b2 : a.tmod n < (n : Int) := Int.tmod_lt_of_pos a (by omega)
  have hm : (pmodn a n : Int) = (a.tmod n + n) % n := by
    unfold pmodn
    rw [Int.toNat_of_nonneg (Int.emod_nonneg a hn0), Int.add_emod_right]
    exact (Int.emod_eq_emod_iff_emod_sub_eq_zero).2 (by
      have := Int.mul_tdiv_add_tmod a n
      have h3 : a - a.tmod n = n * a.tdiv n := by omega
      rw [h3]; exact Int.mul_emod_right _ _)
  have HM := Lib.hid hm
  have w1 : IntKind.i64.wrap (a.tmod n + n) = a.tmod n + n := IntWalk.i64_in _ (by omega)
  have w2 : 0 ≤ a.tmod n + n := by omega
  have w3 : IntKind.i64.wrap (a.tmod n) = a.tmod n := IntWalk.i64_in _ (by omega)
  clear hm
  go_enter Tryz.func26, Tryz.ntmps26
  go_wp2
  go_ret
  exact ⟨by rw [HM.out]; rfl, rfl⟩
theorem mMesiDrops_bad (c0 c1 c2 c3 c4 c5 c6 : Int) (x : MStp) (W : World) (hT : Tabs W) (hg : goodB c0 c1 c2 c3 c4 c5 c6 = false) : Calls Tryz.prog 10 #[.agg #[.int .i64 c0, .int .i64 c1, .int .i64 c2, .int .i64 c3, .int .i64 c4, .int .i64 c5, .int .i64 c6], .agg (mstc x)] W fun e w' => e = .returned (.bool true) ∧ Chg [] W w' := by
  have HT := Lib.hid hT
  have HG := Lib.hid (fun w => mgood_false c0 c1 c2 c3 c4 c5 c6 w hg)
  have C0 := Lib.hid (((Chg.refl [] W).alloc (.cells #[.int .i64 c0, .int .i64 c1, .int .i64 c2, .int .i64 c3, .int .i64 c4, .int .i64 c5, .int .i64 c6] 23)).alloc (.cells (mstc x) 42))
  clear hT hg
  go_enter Tryz.func10, Tryz.ntmps10
  try dsimp only [List.append]
  go_wp2_with fail
  refine (HG.out _).mono ?_
  rintro e w1 ⟨rfl, cw1⟩
  have C1 := Lib.hid (C0.out.trans cw1)
  clear cw1
  go_wp2_with fail
  refine (mwakes _ (HT.out.keep0 C1.out)).mono ?_
  rintro e w2 ⟨rfl, cw2⟩
  go_wp2_with fail
  go_ret
  exact ⟨rfl, C1.out.trans cw2⟩
theorem mMesiDrops_big (c : Cg) (hc : c.Ok) (x : MStp) (W : World) (hT : Tabs W) (h12 : 12 < c.li) : Calls Tryz.prog 10 #[.agg c.cells, .agg (mstc x)] W fun e w' => e = .returned (.bool true) ∧ Chg [] W w' := by
  have HT := Lib.hid hT
  have HG := Lib.hid (fun w => mgood_true c hc w)
  have t1 : decide ((12 : Int) < (c.li : Int)) = true := decide_eq_true (by omega)
  have t2 : decide (12 < c.li) = true := decide_eq_true h12
  have C0 := Lib.hid (((Chg.refl [] W).alloc (.cells c.cells 23)).alloc (.cells (mstc x) 42))
  have r0 : ((W.alloc (.cells c.cells 23)).alloc (.cells (mstc x) 42)).heap[W.heap.size]? = some (.cells c.cells 23 (0, 0)) := by simp
  clear hT hc h12
  go_enter Tryz.func10, Tryz.ntmps10
  try dsimp only [List.append]
  go_wp2_with fail
  refine (HG.out _).mono ?_
  rintro e w1 ⟨rfl, cw1⟩
  have C1 := Lib.hid (C0.out.trans cw1)
  have r1 := cw1.keep r0 List.not_mem_nil
  have o1 := old r1
  clear cw1 r0
  go_wp2_with fail
  refine (mwakes _ (HT.out.keep0 C1.out)).mono ?_
  rintro e w2 ⟨rfl, cw2⟩
  go_wp2_with fail
  go_ret
  exact ⟨rfl, C1.out.trans cw2⟩

set_option maxHeartbeats 8000000 in
theorem mMesiDrops_good (c : Cg) (hc : c.Ok) (x : MStp) (W : World) (hT : Tabs W) (h12 : c.li ≤ 12) : Calls Tryz.prog 10 #[.agg c.cells, .agg (mstc x)] W fun e w' => e = .returned (.bool true) ∧ Chg [] W w' := by
  have HT := Lib.hid hT
  have HCO := Lib.hid hc
  have H12 := Lib.hid h12
  have HG := Lib.hid (fun w => mgood_true c hc w)
  have t1 : decide ((12 : Int) < (c.li : Int)) = false := decide_eq_false (by omega)
  have t2 : decide (12 < c.li) = false := decide_eq_false (by omega)
  have C0 := Lib.hid (((Chg.refl [] W).alloc (.cells c.cells 23)).alloc (.cells (mstc x) 42))
  have r0 : ((W.alloc (.cells c.cells 23)).alloc (.cells (mstc x) 42)).heap[W.heap.size]? = some (.cells c.cells 23 (0, 0)) := by simp
  have s0 : ((W.alloc (.cells c.cells 23)).alloc (.cells (mstc x) 42)).heap[W.heap.size + 1]? = some (.cells (mstc x) 42 (0, 0)) := by simp
  have g12 : (c.li : Int) ≤ 12 := by omega
  clear hT hc h12
  go_enter Tryz.func10, Tryz.ntmps10
  try dsimp only [List.append]
  go_wp2_with fail
  refine (HG.out _).mono ?_
  rintro e w1 ⟨rfl, cw1⟩
  have C1 := Lib.hid (C0.out.trans cw1)
  have r1 := cw1.keep r0 List.not_mem_nil
  have s1 := cw1.keep s0 List.not_mem_nil
  have BX := Lib.hid (show W.heap.size ≤ W.heap.size ∧ W.heap.size ≤ W.heap.size + 1 ∧ W.heap.size ≠ W.heap.size + 1 from ⟨by omega, by omega, by omega⟩)
  clear cw1 r0 s0 C0
  generalize hbx : W.heap.size + 1 = bx at r1 s1 BX ⊢
  generalize hbc : W.heap.size = bc at r1 s1 BX ⊢
  have HBC := Lib.hid hbc
  clear hbx hbc
  have o1 := old r1
  have p1 := old s1
  go_wp2_with fail
  refine (mnew_none W _ c HCO.out C1.out none 0).mono ?_
  rintro e w2 ⟨sy, F, rfl, hm, hcc, hkk⟩
  have r2 := hcc.keep r1 List.not_mem_nil
  have s2 := hcc.keep s1 List.not_mem_nil
  have M0 := Lib.hid (show MS W w2 c sy F (fresh9 c) from hm)
  have I0 := Lib.hid (Inv.fresh c HCO.out (List.replicate (c.li * 8) 0) (by simp))
  have NB1 := Lib.hid (show bc ∉ F from fun h => by have := hkk _ h; have := o1.lt; omega)
  have NB2 := Lib.hid (show bx ∉ F from fun h => by have := hkk _ h; have := p1.lt; omega)
  have HF0 := Lib.hid (show ∀ b ∈ F, W.heap.size ≤ b from fun b hb => Nat.le_trans C1.out.size (hkk b hb))
  have C2 := Lib.hid (C1.out.trans hcc)
  clear hm hcc hkk r1 s1 o1 p1
  have o2 := old r2
  have p2 := old s2
  obtain ⟨k, hk⟩ : ∃ k, pmodn x.co c.co = k := ⟨_, rfl⟩
  obtain ⟨i, hi⟩ : ∃ i, pmodn x.li c.li = i := ⟨_, rfl⟩
  obtain ⟨d, hd⟩ : ∃ d, pmodn x.wd 8 = d := ⟨_, rfl⟩
  have HK := Lib.hid (show k < c.co by rw [← hk]; exact pmodn_lt _ _ HCO.out.co1)
  have HI := Lib.hid (show i < c.li by rw [← hi]; exact pmodn_lt _ _ (by have := HCO.out.li2; omega))
  have HD := Lib.hid (show d < 8 by rw [← hd]; exact pmodn_lt _ _ (by omega))
  have q1 : Calls Tryz.prog 26 #[.int .i64 x.co, .int .i64 c.co] w2.drew fun e w' => e = .returned (.int .i64 k) ∧ w' = w2.drew := by rw [← hk]; exact (pmod_ok x.co c.co HCO.out.co1 (by have := HCO.out.co8; omega) _).mono fun _ _ h => ⟨h.1, h.2.symm⟩
  have q2 : Calls Tryz.prog 26 #[.int .i64 x.li, .int .i64 c.li] w2.drew fun e w' => e = .returned (.int .i64 i) ∧ w' = w2.drew := by rw [← hi]; exact (pmod_ok x.li c.li (by have := HCO.out.li2; omega) (by have := HCO.out.li64; omega) _).mono fun _ _ h => ⟨h.1, h.2.symm⟩
  have q3 : Calls Tryz.prog 26 #[.int .i64 x.wd, .int .i64 8] w2.drew fun e w' => e = .returned (.int .i64 d) ∧ w' = w2.drew := by rw [← hd]; exact (pmod_ok x.wd 8 (by omega) (by omega) _).mono fun _ _ h => ⟨h.1, h.2.symm⟩
  have Q1 := Lib.hid q1
  have Q2 := Lib.hid q2
  have Q3 := Lib.hid q3
  clear q1 q2 q3 hk hi hd
  go_wp2_with fail
  go_still_tail 16, (by kernel_rfl)
  still_call Q1.out
  repeat still_step
  still_call Q2.out
  repeat still_step
  still_call Q3.out
  repeat still_step
  refine wpStill_nil ?_
  change wpList _ _ _ _ _ w2.drew
  have CD := Lib.hid ((Chg.refl [] w2).drew)
  have r3 := CD.out.keep r2 List.not_mem_nil
  have s3 := CD.out.keep s2 List.not_mem_nil
  have M3 := Lib.hid (show MS W w2.drew c sy F (fresh9 c) from Mem.keep M0.out CD.out)
  clear r2 s2 o2 p2 M0 Q1 Q2 Q3
  generalize w2.drew = w3 at r3 s3 CD M3 ⊢
  have o3 := old r3
  have p3 := old s3
  go_wp2_with fail
  have SX := Lib.hid ((Chg.refl [bx] w3).putRow bx 0 (mstc ⟨0, k, i, d, x.v⟩) (.inl (by simp)))
  have r4 := SX.out.keep r3 (by simpa using BX.out.2.2)
  have s4 : (putRow w3 bx 0 (mstc ⟨0, k, i, d, x.v⟩)).heap[bx]? = some (.cells (mstc ⟨0, k, i, d, x.v⟩) 42 (0, 0)) := by
    rw [heap_putRow _ _ _ _ _ (by rw [s3]; rfl), if_pos rfl, s3]
    exact rowPut_full _ _ _ _ rfl
  have M4 := Lib.hid (show MS W (putRow w3 bx 0 (mstc ⟨0, k, i, d, x.v⟩)) c sy F (fresh9 c) from Mem.keepL M3.out SX.out (by intro b hb; rw [List.mem_singleton] at hb; subst hb; exact NB2.out) (by intro b hb; rw [List.mem_singleton] at hb; subst hb; have := BX.out.2.1; have := HBC.out; omega))
  clear r3 s3 o3 p3 M3
  generalize putRow w3 bx 0 (mstc ⟨0, k, i, d, x.v⟩) = w0 at r4 s4 SX M4 ⊢
  have rc0 := r4
  have rx0 := s4
  have RC := Lib.hid rc0
  have RX := Lib.hid rx0
  clear r4 s4
  have oc0 := old rc0
  have ox0 := old rx0
  have HC0 := Lib.hid (show Chg F w0 w0 ∧ ∀ k ∈ F, k ∈ F ∨ w0.heap.size ≤ k from ⟨Chg.refl _ _, fun k hk => .inl hk⟩)
  have HNO := Lib.hid (show ∀ (q : Nat) (e : En), (fresh9 c).en[q]? = some e → e.ow ≠ (k : Int) ∧ hasM e.sh k = false from fun q e he => by
    have := List.mem_of_getElem? he
    rw [List.eq_of_mem_replicate (show e ∈ List.replicate c.li enE from this)]
    exact enE_none k)
  have hop := sdrop9 M4.out I0.out (by omega) (Quiet.fresh c).short HT.out i
  rw [show dropM c _ i = (fresh9 c, didE 16) from dropM_kept (S := fresh9 c) HI.out (fresh9_en c i HI.out) rfl] at hop
  have HOP := Lib.hid (show Calls Tryz.prog 31 #[.pointer (some ⟨sy, 0, none⟩), .int .i64 i] w0 fun e w' => e = .returned (.int .i64 16) ∧ MTS W w0 c sy F (fresh9 c) w' from hop)
  clear hop
  refine HOP.out.mono ?_
  rintro e w4 ⟨rfl, m4⟩
  obtain ⟨F4, hm4, hc4, hk4⟩ := MTS.go M4.out HC0.out.1 HC0.out.2 m4
  have HM4 := Lib.hid (show MS W w4 c sy F4 (fresh9 c) from hm4)
  have HC4 := Lib.hid (show Chg F w0 w4 ∧ ∀ k ∈ F4, k ∈ F ∨ w0.heap.size ≤ k from ⟨hc4, hk4⟩)
  have rc4 := hc4.keep rc0 NB1.out
  have rx4 := hc4.keep rx0 NB2.out
  clear m4 hm4 hc4 hk4
  have oc4 := old rc4
  have ox4 := old rx4
  clear rc0 rx0 oc0 ox0 HOP
  have rc0 := RC.out
  have rx0 := RX.out
  go_wp2_with fail
  refine (write_any ⟨0, k, i, d, x.v⟩ k i d ⟨rfl, rfl, rfl⟩ HK.out HI.out HD.out HM4.out I0.out (Quiet.fresh c) (by omega) H12.out HT.out).mono ?_
  rintro e w5 ⟨rfl, S5, m5, i5, q5, e5, v5, f5⟩
  obtain ⟨F5, hm5, hc5, hk5⟩ := MTS.go HM4.out HC4.out.1 HC4.out.2 m5
  have HM5 := Lib.hid (show MS W w5 c sy F5 S5 from hm5)
  have HC5 := Lib.hid (show Chg F w0 w5 ∧ ∀ k ∈ F5, k ∈ F ∨ w0.heap.size ≤ k from ⟨hc5, hk5⟩)
  have rc5 := hc5.keep rc0 NB1.out
  have rx5 := hc5.keep rx0 NB2.out
  clear m5 hm5 hc5 hk5
  have oc5 := old rc5
  have ox5 := old rx5
  have I5 := Lib.hid i5
  have Q5 := Lib.hid q5
  have E5 := Lib.hid (e5 rfl)
  have V5 := Lib.hid v5
  have B5 := Lib.hid (show But9 c i S5 from fun q hq hqi => (f5 ((Quiet.fresh c).room I0.out HK.out HNO.out i) q hqi).trans (fresh9_en c q hq))
  clear i5 q5 e5 v5 f5 rc4 rx4 oc4 ox4
  obtain ⟨en5, he5, hk5⟩ := Drops9.kept I5.out Q5.out HK.out HI.out V5.out
  have hop := sdrop9 HM5.out I5.out (by omega) Q5.out.short HT.out i
  rw [dropM_kept HI.out he5 hk5] at hop
  have HOP := Lib.hid (show Calls Tryz.prog 31 #[.pointer (some ⟨sy, 0, none⟩), .int .i64 i] w5 fun e w' => e = .returned (.int .i64 16) ∧ MTS W w5 c sy F5 S5 w' from hop)
  clear hop he5 hk5
  go_wp2_with fail
  refine HOP.out.mono ?_
  rintro e w6 ⟨rfl, m6⟩
  obtain ⟨F6, hm6, hc6, hk6⟩ := MTS.go HM5.out HC5.out.1 HC5.out.2 m6
  have HM6 := Lib.hid (show MS W w6 c sy F6 S5 from hm6)
  have HC6 := Lib.hid (show Chg F w0 w6 ∧ ∀ k ∈ F6, k ∈ F ∨ w0.heap.size ≤ k from ⟨hc6, hk6⟩)
  have rc6 := hc6.keep rc0 NB1.out
  have rx6 := hc6.keep rx0 NB2.out
  clear m6 hm6 hc6 hk6
  have oc6 := old rc6
  have ox6 := old rx6
  clear rc5 rx5 oc5 ox5 HOP
  have hev := (Q5.out.evict I5.out HK.out HI.out V5.out).1
  obtain ⟨CC9, LL9, f1, f2, f3⟩ := Evicted9.way I5.out Q5.out HK.out HI.out V5.out
  have HF1 := Lib.hid f1
  have HF2 := Lib.hid f2
  have HF3 := Lib.hid f3
  have hop := sevict9 HM6.out I5.out (by omega) Q5.out.short HT.out k i
  rw [hev] at hop
  have HOP := Lib.hid hop
  clear hop hev f1 f2 f3
  go_wp2_with fail
  refine HOP.out.mono ?_
  rintro e w7 ⟨rfl, m7⟩
  obtain ⟨F7, hm7, hc7, hk7⟩ := MTS.go HM6.out HC6.out.1 HC6.out.2 m7
  have HM7 := Lib.hid (show MS W w7 c sy F7 (evictM c S5 k i).1 from hm7)
  have HC7 := Lib.hid (show Chg F w0 w7 ∧ ∀ k ∈ F7, k ∈ F ∨ w0.heap.size ≤ k from ⟨hc7, hk7⟩)
  have rc7 := hc7.keep rc0 NB1.out
  have rx7 := hc7.keep rx0 NB2.out
  clear m7 hm7 hc7 hk7
  have oc7 := old rc7
  have ox7 := old rx7
  have I7 := Lib.hid (I5.out.evictM k i)
  clear rc6 rx6 oc6 ox6 HOP
  go_wp2_with fail
  refine (settle_any HM7.out I7.out (by omega) H12.out HT.out HF1.out HF2.out).mono ?_
  rintro e w8 ⟨rfl, S8, m8, i8, p8⟩
  obtain ⟨F8, hm8, hc8, hk8⟩ := MTS.go HM7.out HC7.out.1 HC7.out.2 m8
  have HM8 := Lib.hid (show MS W w8 c sy F8 S8 from hm8)
  have HC8 := Lib.hid (show Chg F w0 w8 ∧ ∀ k ∈ F8, k ∈ F ∨ w0.heap.size ≤ k from ⟨hc8, hk8⟩)
  have rc8 := hc8.keep rc0 NB1.out
  have rx8 := hc8.keep rx0 NB2.out
  clear m8 hm8 hc8 hk8
  have oc8 := old rc8
  have ox8 := old rx8
  clear rc7 rx7 oc7 ox7
  have I8 := Lib.hid i8
  obtain ⟨q8, e8, o8, en8, h8, h81, h82, h83, h84, h85⟩ := HF3.out S8 _ i8 p8
  have Q8 := Lib.hid q8
  have E8 := Lib.hid (e8 E5.out)
  have B8 := Lib.hid (show But9 c i S8 from fun q hq hqi => (o8 q hqi).trans (B5.out q hq hqi))
  have H8 := Lib.hid h8
  have HG8 := Lib.hid (Drops9.go i8 q8 HI.out h8 h81 h82 h83 h84 h85 E8.out B8.out)
  have HDI := Lib.hid h85
  have HNO8 := Lib.hid (B8.out.all (k := k) i8 (fun e he => by
    rw [h8] at he
    injection he with he
    subst he
    exact ⟨by rw [h82]; omega, by rw [h83]; exact has_zero _⟩))
  clear i8 p8 q8 e8 o8 h8 h81 h82 h83 h84 h85
  have hs := mslots_ok HM8.out k (atP S8.ps k) (atP_mem (by rw [I8.out.co]; exact HK.out))
  rw [Q8.out.live0 I8.out HK.out HNO8.out] at hs
  have HS := Lib.hid hs
  clear hs
  go_wp2_with fail
  refine HS.out.mono ?_
  rintro e w9 ⟨A9, c9, rfl, _, cw9⟩
  rw [show ([] : List Slt).length = 0 from rfl]
  have HM9 := Lib.hid (show MS W w9 c sy F8 S8 from Mem.keep HM8.out cw9)
  have rc9 := cw9.keep rc8 List.not_mem_nil
  have rx9 := cw9.keep rx8 List.not_mem_nil
  have CW9 := Lib.hid cw9
  clear cw9 rc8 rx8 oc8 ox8 HS
  have oc9 := old rc9
  have ox9 := old rx9
  go_wp2_with fail
  refine (mentry_ok HM9.out i en8 H8.out).mono ?_
  rintro e w10 ⟨rfl, cw10⟩
  have HM10 := Lib.hid (show MS W w10 c sy F8 S8 from Mem.keep HM9.out cw10)
  have rc10 := cw10.keep rc9 List.not_mem_nil
  have rx10 := cw10.keep rx9 List.not_mem_nil
  have CW10 := Lib.hid (CW9.out.trans cw10)
  clear cw10 rc9 rx9 oc9 ox9
  have oc10 := old rc10
  have ox10 := old rx10
  have hdi := HDI.out
  have hop := sdrop9 HM10.out I8.out (by omega) Q8.out.short HT.out i
  rw [HG8.out.1] at hop
  have HOP := Lib.hid hop
  clear hop
  go_wp2_with fail
  have HC10 := Lib.hid (show Chg F w0 w10 ∧ ∀ k ∈ F8, k ∈ F ∨ w0.heap.size ≤ k from ⟨HC8.out.1.trans (CW10.out.mono (by simp)), HC8.out.2⟩)
  refine HOP.out.mono ?_
  rintro e w11 ⟨rfl, m11⟩
  obtain ⟨F11, hm11, hc11, hk11⟩ := MTS.go HM10.out HC10.out.1 HC10.out.2 m11
  have HM11 := Lib.hid (show MS W w11 c sy F11 (dropM c S8 i).1 from hm11)
  have HC11 := Lib.hid (show Chg F w0 w11 ∧ ∀ k ∈ F11, k ∈ F ∨ w0.heap.size ≤ k from ⟨hc11, hk11⟩)
  have rc11 := hc11.keep rc0 NB1.out
  have rx11 := hc11.keep rx0 NB2.out
  clear m11 hm11 hc11 hk11
  have oc11 := old rc11
  have ox11 := old rx11
  clear rc10 rx10 oc10 ox10 HOP hdi
  have I11 := Lib.hid (I8.out.dropM i)
  obtain ⟨_, q11, e11, b11, x11, l11⟩ := HG8.out
  have Q11 := Lib.hid q11
  have E11 := Lib.hid e11
  have B11 := Lib.hid b11
  have X11 := Lib.hid x11
  have L11 := Lib.hid l11
  clear q11 e11 b11 x11 l11 HG8
  generalize (dropM c S8 i).1 = S11 at I11 Q11 E11 B11 X11 L11 HM11
  go_wp2_with fail
  refine (mentry_ok HM11.out i enE E11.out).mono ?_
  rintro e w12 ⟨rfl, cw12⟩
  have HM12 := Lib.hid (show MS W w12 c sy F11 S11 from Mem.keep HM11.out cw12)
  have rc12 := cw12.keep rc11 List.not_mem_nil
  have rx12 := cw12.keep rx11 List.not_mem_nil
  have HC12 := Lib.hid (show Chg F w0 w12 ∧ ∀ k ∈ F11, k ∈ F ∨ w0.heap.size ≤ k from ⟨HC11.out.1.trans (cw12.mono (by simp)), HC11.out.2⟩)
  clear cw12 rc11 rx11 oc11 ox11
  have oc12 := old rc12
  have ox12 := old rx12
  have hz : enE.he = false := rfl
  go_wp2_with fail
  refine (mmemory_ok HM12.out).mono ?_
  rintro e w13 ⟨g13, cap13, r13, rfl, hg13, hn13, hcap13, cw13⟩
  have HM13 := Lib.hid (show MS W w13 c sy F11 S11 from Mem.keep HM12.out cw13)
  have rc13 := cw13.keep rc12 List.not_mem_nil
  have rx13 := cw13.keep rx12 List.not_mem_nil
  have HC13 := Lib.hid (show Chg F w0 w13 ∧ ∀ k ∈ F11, k ∈ F ∨ w0.heap.size ≤ k from ⟨HC12.out.1.trans (cw13.mono (by simp)), HC12.out.2⟩)
  clear cw13 rc12 rx12 oc12 ox12 hn13 hz
  have hX := I11.out.lX
  have hl8 := I11.out.ln8 HI.out
  have hcell := bk_cell (ln_cell hX HI.out HD.out) r13
  rw [show ln S11.X i = upd9 (fun i => ln (List.replicate (c.li * 8) 0) i) i d x.v i from L11.out, upd9_at _ _ _ _ (by rw [ln_length _ _ (fit_line (by simp) HI.out)]; exact HD.out)] at hcell
  obtain ⟨x1, hx1⟩ := X11.out
  have hw := mwaiting_ok HM13.out
  rw [hx1] at hw
  have HWF := Lib.hid (show ∀ w', Chg [] w13 w' → Calls Tryz.prog 23 #[.pointer (some ⟨sy, 0, none⟩)] w' (WTold w' (poss [x1])) from fun w' hc => by
    have h1 := mwaiting_ok (Mem.keep HM13.out hc)
    rw [hx1] at h1
    exact h1)
  have HW := Lib.hid (show Calls Tryz.prog 23 #[.pointer (some ⟨sy, 0, none⟩)] w13 (WTold w13 (poss [x1])) from hw)
  obtain ⟨X, hXX⟩ : ∃ X, over S11.xs S11.es = X := ⟨_, rfl⟩
  have hcell' : (bk X r13)[i * 8 + d]? = some (.int .u64 x.v) := by rw [← hXX]; exact hcell
  rw [hXX] at hg13
  have hb13 : X.length = c.li * 8 := by rw [← hXX]; exact hX
  clear hcell hX hl8 hw hx1 hXX
  have og13 := old hg13
  have oc13 := old rc13
  have ox13 := old rx13
  have q1 : (0 : Int) ≤ (i : Int) := by omega
  have q2 : (i : Int) < (c.li : Int) := by have := HI.out; omega
  have q3 : (0 : Int) ≤ (d : Int) := by omega
  have q4 : (d : Int) < 8 := by have := HD.out; omega
  have tv : (x.v != x.v) = false := by simp
  have tl : ((c.li : Int) != (c.li : Int)) = false := by simp
  go_wp2_with fail
  go_region_held3 (fun w' => w'.heap[bc]? = some (.cells c.cells 23 (0, 0)) ∧ w'.heap[bx]? = some (.cells (mstc ⟨0, k, i, d, x.v⟩) 42 (0, 0)) ∧ w'.heap[g13]? = some (.cells (bk X r13) 36 (0, 0))) (first | exact ⟨rc13, rx13, hg13⟩ | exact ⟨(Chg.trans ((Chg.refl [] w13).drew) cw14).keep rc13 List.not_mem_nil, (Chg.trans ((Chg.refl [] w13).drew) cw14).keep rx13 List.not_mem_nil, (Chg.trans ((Chg.refl [] w13).drew) cw14).keep hg13 List.not_mem_nil⟩)
    (first
      | (go_at_call 23; refine (HWF.out _ ((Chg.refl [] _).drew)).mono ?_; rintro e w14 ⟨A14, c14, rfl, _, cw14⟩))
  rename_i hHeld
  have C14 := Lib.hid (Chg.trans ((Chg.refl [] w13).drew) cw14)
  have rc14 := C14.out.keep rc13 List.not_mem_nil
  have rx14 := C14.out.keep rx13 List.not_mem_nil
  have HM14 := Lib.hid (show MS W w14 c sy F11 S11 from Mem.keep HM13.out C14.out)
  have HC14 := Lib.hid (show Chg F w0 w14 ∧ ∀ k ∈ F11, k ∈ F ∨ w0.heap.size ≤ k from ⟨HC13.out.1.trans (C14.out.mono (by simp)), HC13.out.2⟩)
  clear hHeld cw14 rc13 rx13 hg13 og13 oc13 ox13 hcell'
  have oc14 := old rc14
  have ox14 := old rx14
  obtain ⟨cur, hcur⟩ : ∃ cur, upd9 (fun i => ln (List.replicate (c.li * 8) 0) i) i d x.v = cur := ⟨_, rfl⟩
  have HCV := Lib.hid (show (cur i).getD d 0 = x.v by rw [← hcur]; exact upd9_at _ _ _ _ (by rw [ln_length _ _ (fit_line (by simp) HI.out)]; exact HD.out))
  have I14 := Lib.hid (show Inv c 2000 S11 cur by rw [← hcur]; exact I11.out.mono (by omega))
  have HWD := Lib.hid (show isWd (d : Int) = true by unfold isWd; have := HD.out; simp; omega)
  have HR14 := Lib.hid (Q11.out.room I14.out HK.out (B11.out.all (k := k) I14.out (fun e he => by
    rw [E11.out] at he
    injection he with he
    subst he
    exact enE_none k)) i)
  clear hcur
  go_wp2_with fail
  go_loopw [8, 9, 10] (fun i' s9 s10 wr => ∃ (t : Nat) (F1 : List Nat) (S1 : Mst), i' = .int .i64 t ∧ MS W wr c sy F1 S1 ∧ (Chg F w0 wr ∧ ∀ k ∈ F1, k ∈ F ∨ w0.heap.size ≤ k) ∧ Inv c (2000 + t * 300) S1 cur ∧ Quiet c S1 ∧ Ld9 c k i S11 t S1) (fun i' _ _ _ => 6 - (intOf i').toNat)
  case atStart => exact ⟨0, F11, S11, rfl, HM14.out, HC14.out, I14.out.mono (by omega), Q11.out, Ld9.start E11.out⟩
  case round =>
    obtain ⟨t, F1, S1, rfl, hm, hc, hI, hq, hg⟩ := hrel
    have HM := Lib.hid hm
    have HC := Lib.hid hc
    have HI1 := Lib.hid hI
    have HQ := Lib.hid hq
    have HG := Lib.hid hg
    have HT1 := Lib.hid hg.one
    have ht := hg.one
    have rc2 := hc.1.keep RC.out NB1.out
    have rx2 := hc.1.keep RX.out NB2.out
    have oc2 := old rc2
    have ox2 := old rx2
    have gt0 : (0 : Int) ≤ (t : Int) := by omega
    have gt1 : (t : Int) < 6 := by omega
    have tt : decide (t < 6) = true := decide_eq_true (by omega)
    clear hm hc hI hq hg ht rc14 rx14 oc14 ox14
    have hop := sload9 HM.out HI1.out (by have := HT1.out; omega) HQ.out.short HT.out k i d
    have hi2 := HI1.out.loadM k i d
    have hl := HQ.out.load HI1.out HK.out HI.out HWD.out
    obtain ⟨y, hy⟩ : ∃ y, loadM c S1 k i d = y := ⟨_, rfl⟩
    rw [hy] at hop hi2 hl
    obtain ⟨S2, dv, dh, dm, de⟩ := y
    clear hy
    dsimp only at hop hi2 hl
    have HOP := Lib.hid hop
    have HI2 := Lib.hid hi2
    clear hop hi2
    rcases hl with ⟨_, rfl, l1, l2, l3, _⟩ | ⟨l0, rfl, l1⟩
    · rw [Int.toNat_natCast, HCV.out] at l1
      obtain rfl := l1
      obtain ⟨e9, d1, d2⟩ := HG.out.di
      have HE9 := Lib.hid (show S2.en[i]? = some e9 by rw [l3]; exact d1)
      have HD9 := Lib.hid d2
      clear l2 l3 d1 d2
      go_wp2_with fail
      refine HOP.out.mono ?_
      rintro e w3 ⟨rfl, m3⟩
      obtain ⟨F3, hm3, hc3, hk3⟩ := MTS.go HM.out HC.out.1 HC.out.2 m3
      have HM3 := Lib.hid (show MS W w3 c sy F3 S2 from hm3)
      have rx3 := hc3.keep RX.out NB2.out
      have ox3 := old rx3
      clear m3 hm3 hc3 hk3 rc2 rx2 oc2 ox2 HOP
      have tv : (x.v == x.v) = true := by simp
      go_wp2_with fail
      refine (mentry_ok HM3.out i e9 HE9.out).mono ?_
      rintro e w4 ⟨rfl, cw4⟩
      have hd9 := HD9.out
      have HCW := Lib.hid ((Mem.chg HM3.out).trans cw4)
      clear cw4 rx3 ox3
      go_wp2_with fail
      refine (mwakes _ (HT.out.keep0 HCW.out)).mono ?_
      rintro e w5 ⟨rfl, cw5⟩
      go_wp2_with fail
      go_ret
      exact ⟨rfl, HCW.out.trans cw5⟩
    · obtain ⟨CC9, LL9, f1, f2, f3⟩ := HG.out.way E11.out HR14.out HI1.out HQ.out HK.out HI.out l0 l1
      have HF1 := Lib.hid f1
      have HF2 := Lib.hid f2
      have HF3 := Lib.hid f3
      clear l0 l1 f1 f2 f3
      go_wp2_with fail
      refine HOP.out.mono ?_
      rintro e w3 ⟨rfl, m3⟩
      obtain ⟨F3, hm3, hc3, hk3⟩ := MTS.go HM.out HC.out.1 HC.out.2 m3
      have HM3 := Lib.hid (show MS W w3 c sy F3 S2 from hm3)
      have HC3 := Lib.hid (show Chg F w0 w3 ∧ ∀ k ∈ F3, k ∈ F ∨ w0.heap.size ≤ k from ⟨hc3, hk3⟩)
      have rc3 := hc3.keep RC.out NB1.out
      have oc3 := old rc3
      clear m3 hm3 hc3 hk3 rc2 rx2 oc2 ox2 HOP
      go_wp2_with fail
      refine (settle_any HM3.out HI2.out (by have := HT1.out; omega) H12.out HT.out HF1.out HF2.out).mono ?_
      rintro e w4 ⟨rfl, S4, m4, i4, p4⟩
      obtain ⟨F4, hm4, hc4, hk4⟩ := MTS.go HM3.out HC3.out.1 HC3.out.2 m4
      have HM4 := Lib.hid (show MS W w4 c sy F4 S4 from hm4)
      have HC4 := Lib.hid (show Chg F w0 w4 ∧ ∀ k ∈ F4, k ∈ F ∨ w0.heap.size ≤ k from ⟨hc4, hk4⟩)
      have HI4 := Lib.hid i4
      have HE4 := Lib.hid (HF3.out S4 _ i4 p4)
      clear m4 hm4 hc4 hk4 i4 p4
      go_wp2_with fail
      refine ⟨?_, ?measure⟩
      rotate_right
      · have := HT1.out; simp [intOf]; omega
      iterate 38 (apply Exists.intro)
      refine ⟨?rel, rfl⟩
      case rel => exact ⟨t + 1, F4, S4, by go_num, HM4.out, HC4.out, HI4.out.mono (by omega), HE4.out.1, HE4.out.2⟩
theorem mMesiDrops_any (c0 c1 c2 c3 c4 c5 c6 : Int) (x : MStp) (W : World) (hT : Tabs W) : Calls Tryz.prog 10 #[.agg #[.int .i64 c0, .int .i64 c1, .int .i64 c2, .int .i64 c3, .int .i64 c4, .int .i64 c5, .int .i64 c6], .agg (mstc x)] W fun e w' => e = .returned (.bool true) ∧ Chg [] W w' := by
  cases hg : goodB c0 c1 c2 c3 c4 c5 c6
  · exact mMesiDrops_bad c0 c1 c2 c3 c4 c5 c6 x W hT hg
  · obtain ⟨c, hc, rfl, rfl, rfl, rfl, rfl, rfl, rfl⟩ := cg_of hg
    by_cases h12 : c.li ≤ 12
    · exact mMesiDrops_good c hc x W hT h12
    · exact mMesiDrops_big c hc x W hT (by omega)
end Go.Proofs.YtadeoflkppiflaaGreatDoor
end
