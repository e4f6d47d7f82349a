/- SbufNone, SbufFull, SbufOwn: walked. No condition. -/
import Derived.Test.YtibnehmgeccedaaSbw
namespace Go.Proofs.Ytibnehmgeccedaa
open Go.RowKit
set_option linter.unusedVariables false
set_option maxHeartbeats 1000000

attribute [local go_sem ↓] append_appS copy_copS clear_clrS make_mkS cell_row frozen_row loadSe storeSe loadBuf storeBuf heap_drew heap_drewN heap_alloc heap_past heap_setCell heap_putRow sec_kd sec_li sec_wo sec_va sec_sn bfc_room bfc_first bfc_count
attribute [local go_sem] rowCell_some rowFrozen_some rowHas_some rowIn_some rowPart_full rowPart_lit rowPut_full rowPut_lit rowSet_some size_putRow wideSe wideBuf run_loadS run_storeS run_appS run_copS run_clrS run_mkS loadW_at storeW_at fit_all fit_le fit_pl one_int one_bool one_pointer one_slice allOne_list putRow_new ne_size1 ne_size2 ne_size3 ne_size4 sec_size sec_one sec_lit sec_z sec_ne sec_set0 sec_set1 sec_set2 sec_set3 sec_set4 seZ_kd seZ_li seZ_wo seZ_va seZ_sn fold_sec bfc_size bfc_one bfc_setFirst bfc_setCount bfc_in bfc_has bfc_part bfc_put bfc_sent
attribute [local simp ↓] heap_drew heap_drewN heap_alloc heap_past heap_setCell heap_putRow
attribute [local simp] rowCell_some rowFrozen_some rowHas_some rowIn_some rowPart_full rowPart_lit rowPut_full rowPut_lit rowSet_some size_putRow fit_all fit_pl putRow_new ne_size1 ne_size2 ne_size3 ne_size4 sec_size bfc_size bfc_setFirst bfc_setCount bfc_has bfc_put bfc_sent
attribute [local go_sem ↓] zbuf
attribute [local go_sem] bfc_setRoom bfc_ne
attribute [local go_sem ↓] loadRSe storeRSe loadFnd storeFnd loadStp storeStp
attribute [local go_sem] wideRSe wideFnd wideStp
attribute [local go_sem ↓] se_same rse_same
set_option maxRecDepth 100000 in
theorem bnone_any (x : Se) (W : World) : Calls Try.prog 5 #[.agg (sec x)] W fun e w' => e = .returned (.bool true) ∧ Chg [] W w' := by
  go_enter Try.func5, Try.ntmps5
  try dsimp only [List.append]
  go_wp2_with fail
  have r0 : (W.alloc (.cells (sec x) 33)).heap[W.heap.size]? = some (.cells (sec x) 33 (0, 0)) := by simp
  have C0 := Lib.hid ((Chg.refl [] W).alloc (.cells (sec x) 33))
  generalize W.heap.size = p0 at r0 ⊢
  generalize W.alloc (.cells (sec x) 33) = w0 at r0 C0 ⊢
  refine (ssend_nil w0).mono ?_
  rintro e w1 ⟨rfl, c1⟩
  have r1 := c1.keep r0 (by simp)
  have C1 := Lib.hid (C0.out.trans c1)
  clear r0 C0 c1
  have o1 := old r1
  go_wp2_with fail
  refine (sclear_nil w1).mono ?_
  rintro e w2 ⟨rfl, rfl⟩
  go_wp2_with fail
  refine (sfind_nil x.li x.wo w1).mono ?_
  rintro e w2 ⟨rfl, c2⟩
  have r2 := c2.keep r1 (by simp)
  have C2 := Lib.hid (C1.out.trans c2)
  clear r1 C1 c2 o1
  have o2 := old r2
  go_wp2_with fail
  refine (shead_nil w2).mono ?_
  rintro e w3 ⟨rfl, c3⟩
  have r3 := c3.keep r2 (by simp)
  have C3 := Lib.hid (C2.out.trans c3)
  clear r2 C2 c3 o2
  have o3 := old r3
  go_wp2_with fail
  have c4 := (Chg.refl [] w3).alloc (.cells (sec seZ) 33)
  have r4 := c4.keep r3 (by simp)
  have s4 : (w3.alloc (.cells (sec seZ) 33)).heap[w3.heap.size]? = some (.cells (sec seZ) 33 (0, 0)) := by simp
  have C4 := Lib.hid (C3.out.trans c4)
  clear r3 C3 c4 o3
  generalize w3.heap.size = p4 at s4 ⊢
  generalize w3.alloc (.cells (sec seZ) 33) = w4 at r4 s4 C4 ⊢
  refine (spop_nil w4).mono ?_
  rintro e w5 ⟨rfl, c5⟩
  have r5 := c5.keep r4 (by simp)
  have s5 := c5.keep s4 (by simp)
  have C5 := Lib.hid (C4.out.trans c5)
  clear r4 s4 C4 c5
  have o5 := old r5
  have o5' := old s5
  go_wp2_with fail
  have c6 := (Chg.refl [] w5).alloc (.cells (sec seZ) 33)
  have r6 := c6.keep r5 (by simp)
  have s6 := c6.keep s5 (by simp)
  have u6 : (w5.alloc (.cells (sec seZ) 33)).heap[w5.heap.size]? = some (.cells (sec seZ) 33 (0, 0)) := by simp
  have C6 := Lib.hid (C5.out.trans c6)
  clear r5 s5 C5 c6 o5 o5'
  generalize w5.heap.size = p6 at u6 ⊢
  generalize w5.alloc (.cells (sec seZ) 33) = w6 at r6 s6 u6 C6 ⊢
  refine (spush_nil x w6).mono ?_
  rintro e w7 ⟨rfl, c7⟩
  have C7 := Lib.hid (C6.out.trans c7)
  clear r6 s6 u6 C6 c7
  go_wp2_with (first
    | (go_at_call 21; refine (slen_nil _).mono ?_; rintro e w' ⟨rfl, rfl⟩)
    | (go_at_call 23; refine (sall_nil _).mono ?_; rintro e w8 ⟨A, c, rfl, c8⟩)
    | (go_at_call 7; refine (bwakes _).mono ?_; rintro e w9 ⟨rfl, c9⟩))
  go_ret
  exact ⟨rfl, (C7.out.trans c8).trans c9⟩
end Go.Proofs.Ytibnehmgeccedaa
