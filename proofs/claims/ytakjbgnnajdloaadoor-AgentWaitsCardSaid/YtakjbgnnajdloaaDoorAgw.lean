/- Agw: walked. No condition. -/
import Derived.Test.YtakjbgnnajdloaaDoorAgf
import Derived.Test.YtakjbgnnajdloaaDoorAgm
import Derived.Test.YtakjbgnnajdloaaDoorArrw
import Derived.Test.YtakjbgnnajdloaaDoorMsgr
import Derived.BigQuiet
import Derived.Deep.RegionWith
import Derived.Deep.RegionHeld3
import Derived.Deep.QuietTactic
import Derived.Deep.Cut
import Derived.Deep.CutBlock
import Derived.Deep.CutRange
import Derived.Deep.DeepCutAuto
namespace Go.Proofs.YtakjbgnnajdloaaDoor
open Go.RowKit
set_option linter.unusedVariables false
set_option maxHeartbeats 1000000
attribute [local go_sem ↓] append_appS copy_copS clear_clrS make_mkS cell_row frozen_row loadLine storeLine loadSlot storeSlot heap_drew heap_drewN heap_alloc heap_past heap_setCell heap_putRow vs_get slc_st slc_li slc_us slice_slS loadMsg storeMsg loadHas storeHas msc_kd msc_li msc_di msc_ke
attribute [local go_sem] rowCell_some rowFrozen_some rowHas_some rowIn_some rowPart_full rowPart_lit rowPut_full rowPut_lit rowSet_some size_putRow vs_size vs_one wideLine wideSlot run_loadS run_storeS run_appS run_copS run_clrS run_mkS loadW_at storeW_at fit_all fit_le one_int one_bool one_pointer one_slice allOne_list putRow_new ne_size1 ne_size2 ne_size3 ne_size4 zero8_length line_eq lit8 slc_size slc_one slc_part slc_in fold_slt fold_slc slc_set_us wideMsg wideHas run_slS msc_size msc_one msc_part msc_in fold_msc msc_putDi msc_putKe msc_putX msc_has ms4_lit ms4_k ms4_l ms4_e
attribute [local simp ↓] heap_drew heap_drewN heap_alloc heap_past heap_setCell heap_putRow
attribute [local simp] rowCell_some rowFrozen_some rowHas_some rowIn_some rowPart_full rowPart_lit rowPut_full rowPut_lit rowSet_some size_putRow vs_size fit_all putRow_new ne_size1 ne_size2 ne_size3 ne_size4 zero8_length slc_size msc_size msc_putDi msc_putKe msc_putX msc_has fit_le ms4_k ms4_l ms4_e

theorem aw1 (v : Int) : storeF 2 2 ((List.replicate (2 * 2) sltZ, 0) : Sta) 1 3 v = (([sltZ, sltZ, ⟨5, 1, zl8, 1, rfl⟩, sltZ], 1), (false, [ms4 2 1 false false])) := by rfl
theorem aw2 (v : Int) : hearF 2 2 ([sltZ, sltZ, ⟨5, 1, zl8, 1, rfl⟩, sltZ], 1) (ms4 10 1 false false) = (([sltZ, sltZ, ⟨2, 1, zl8, 2, rfl⟩, sltZ], 2), ([], 0)) := by rfl
theorem aw0_101 (v : Int) : loadF 2 2 ([sltZ, sltZ, ⟨2, 1, zl8, 2, rfl⟩, sltZ], 2) 4 0 = (([⟨4, 4, zl8, 3, rfl⟩, sltZ, ⟨2, 1, zl8, 2, rfl⟩, sltZ], 3), (0, false, [ms4 1 4 false false])) := by rfl
theorem aw0_102 (v : Int) : idleB ([⟨4, 4, zl8, 3, rfl⟩, sltZ, ⟨2, 1, zl8, 2, rfl⟩, sltZ], 3).1  = false := by rfl
theorem aw0_103 (v : Int) : evictF 2 2 ([⟨4, 4, zl8, 3, rfl⟩, sltZ, ⟨2, 1, zl8, 2, rfl⟩, sltZ], 3) 1 = (([⟨4, 4, zl8, 3, rfl⟩, sltZ, ⟨2, 1, zl8, 2, rfl⟩, sltZ], 3), ([], 15)) := by rfl
theorem aw0_104 (v : Int) : loadF 2 2 ([⟨4, 4, zl8, 3, rfl⟩, sltZ, ⟨2, 1, zl8, 2, rfl⟩, sltZ], 3) 6 0 = (([⟨4, 4, zl8, 3, rfl⟩, sltZ, ⟨2, 1, zl8, 2, rfl⟩, sltZ], 3), (0, false, [])) := by rfl
theorem aw0_105 (v : Int) : reachF 2 2 ([⟨4, 4, zl8, 3, rfl⟩, sltZ, ⟨2, 1, zl8, 2, rfl⟩, sltZ], 3) 8 = (([⟨4, 4, zl8, 3, rfl⟩, sltZ, ⟨2, 1, zl8, 2, rfl⟩, sltZ], 3), []) := by rfl
theorem aw0_106 (v : Int) : storeF 2 2 ([⟨4, 4, zl8, 3, rfl⟩, sltZ, ⟨2, 1, zl8, 2, rfl⟩, sltZ], 3) 1 3 v = (([⟨4, 4, zl8, 3, rfl⟩, sltZ, ⟨3, 1, (zl8.set 3 v), 4, rfl⟩, sltZ], 4), (true, [])) := by rfl
theorem aw0_107 (v : Int) : loadF 2 2 ([⟨4, 4, zl8, 3, rfl⟩, sltZ, ⟨3, 1, (zl8.set 3 v), 4, rfl⟩, sltZ], 4) 1 3 = (([⟨4, 4, zl8, 3, rfl⟩, sltZ, ⟨3, 1, (zl8.set 3 v), 5, rfl⟩, sltZ], 5), (v, true, [])) := by rfl
theorem aw0_108 (v : Int) : ownsB ([⟨4, 4, zl8, 3, rfl⟩, sltZ, ⟨3, 1, (zl8.set 3 v), 5, rfl⟩, sltZ], 5).1 1 = true := by rfl
theorem aw1_101 (v : Int) : storeF 2 2 ([sltZ, sltZ, ⟨2, 1, zl8, 2, rfl⟩, sltZ], 2) 4 0 5 = (([⟨5, 4, zl8, 3, rfl⟩, sltZ, ⟨2, 1, zl8, 2, rfl⟩, sltZ], 3), (false, [ms4 2 4 false false])) := by rfl
theorem aw1_102 (v : Int) : idleB ([⟨5, 4, zl8, 3, rfl⟩, sltZ, ⟨2, 1, zl8, 2, rfl⟩, sltZ], 3).1  = false := by rfl
theorem aw1_103 (v : Int) : evictF 2 2 ([⟨5, 4, zl8, 3, rfl⟩, sltZ, ⟨2, 1, zl8, 2, rfl⟩, sltZ], 3) 1 = (([⟨5, 4, zl8, 3, rfl⟩, sltZ, ⟨2, 1, zl8, 2, rfl⟩, sltZ], 3), ([], 15)) := by rfl
theorem aw1_104 (v : Int) : loadF 2 2 ([⟨5, 4, zl8, 3, rfl⟩, sltZ, ⟨2, 1, zl8, 2, rfl⟩, sltZ], 3) 6 0 = (([⟨5, 4, zl8, 3, rfl⟩, sltZ, ⟨2, 1, zl8, 2, rfl⟩, sltZ], 3), (0, false, [])) := by rfl
theorem aw1_105 (v : Int) : reachF 2 2 ([⟨5, 4, zl8, 3, rfl⟩, sltZ, ⟨2, 1, zl8, 2, rfl⟩, sltZ], 3) 8 = (([⟨5, 4, zl8, 3, rfl⟩, sltZ, ⟨2, 1, zl8, 2, rfl⟩, sltZ], 3), []) := by rfl
theorem aw1_106 (v : Int) : storeF 2 2 ([⟨5, 4, zl8, 3, rfl⟩, sltZ, ⟨2, 1, zl8, 2, rfl⟩, sltZ], 3) 1 3 v = (([⟨5, 4, zl8, 3, rfl⟩, sltZ, ⟨3, 1, (zl8.set 3 v), 4, rfl⟩, sltZ], 4), (true, [])) := by rfl
theorem aw1_107 (v : Int) : loadF 2 2 ([⟨5, 4, zl8, 3, rfl⟩, sltZ, ⟨3, 1, (zl8.set 3 v), 4, rfl⟩, sltZ], 4) 1 3 = (([⟨5, 4, zl8, 3, rfl⟩, sltZ, ⟨3, 1, (zl8.set 3 v), 5, rfl⟩, sltZ], 5), (v, true, [])) := by rfl
theorem aw1_108 (v : Int) : ownsB ([⟨5, 4, zl8, 3, rfl⟩, sltZ, ⟨3, 1, (zl8.set 3 v), 5, rfl⟩, sltZ], 5).1 1 = true := by rfl
theorem aw2_101 (v : Int) : evictF 2 2 ([sltZ, sltZ, ⟨2, 1, zl8, 2, rfl⟩, sltZ], 2) 1 = (([sltZ, sltZ, ⟨7, 1, zl8, 3, rfl⟩, sltZ], 3), ([ms4 3 1 false false], 0)) := by rfl
theorem aw2_102 (v : Int) : idleB ([sltZ, sltZ, ⟨7, 1, zl8, 3, rfl⟩, sltZ], 3).1  = false := by rfl
theorem aw2_103 (v : Int) : evictF 2 2 ([sltZ, sltZ, ⟨7, 1, zl8, 3, rfl⟩, sltZ], 3) 1 = (([sltZ, sltZ, ⟨7, 1, zl8, 3, rfl⟩, sltZ], 3), ([], 15)) := by rfl
theorem aw2_104 (v : Int) : loadF 2 2 ([sltZ, sltZ, ⟨7, 1, zl8, 3, rfl⟩, sltZ], 3) 6 0 = (([sltZ, sltZ, ⟨7, 1, zl8, 3, rfl⟩, sltZ], 3), (0, false, [])) := by rfl
theorem aw2_105 (v : Int) : reachF 2 2 ([sltZ, sltZ, ⟨7, 1, zl8, 3, rfl⟩, sltZ], 3) 8 = (([sltZ, sltZ, ⟨7, 1, zl8, 3, rfl⟩, sltZ], 3), []) := by rfl
theorem aw2_106 (v : Int) : loadF 2 2 ([sltZ, sltZ, ⟨7, 1, zl8, 3, rfl⟩, sltZ], 3) 1 3 = (([sltZ, sltZ, ⟨7, 1, zl8, 3, rfl⟩, sltZ], 3), (0, false, [])) := by rfl
theorem aw2_107 (v : Int) : ownsB ([sltZ, sltZ, ⟨7, 1, zl8, 3, rfl⟩, sltZ], 3).1 1 = false := by rfl
set_option maxRecDepth 100000 in
theorem awaits_0 (v kd : Int) (h0 : 0 ≤ kd) (h1 : kd ≤ 255) (hk : kd % 3 = 0) (W : World) (hT : Tabs W) : Calls Tryd.prog 9 #[.int .u64 v, .int .u8 kd] W fun e w' => e = .returned (.bool true) ∧ Chg [] W w' := by
  have HT := Lib.hid hT
  clear hT
  go_enter Tryd.func9, Tryd.ntmps9
  try dsimp only [List.append]
  go_wp2_with fail
  refine (gnew_ok 2 2 W W (Chg.refl _ _) (by decide)).mono ?_
  rintro e w1 ⟨g, a, b, rfl, h0, _⟩
  have H := Lib.hid h0
  clear h0
  go_wp2_with fail
  have hc := gstore_any 1 3 v w1 H.out (by first | decide | simp)
  rw [(aw1 v)] at hc
  refine hc.mono ?_
  clear hc
  rintro e w2 ⟨A, nA, rfl, h1, h2, h3⟩
  have TA := Lib.hid (Tol.of h1 H.out.old2)
  replace H := Lib.hid h2
  clear h1 h2 h3
  go_wp2_with fail
  have hc := ghear_any (ms4 10 1 false false) w2 H.out (by first | decide | simp) HT.out
  rw [(aw2 v)] at hc
  refine hc.mono ?_
  clear hc
  rintro e w3 ⟨B, nB, rfl, h1, h2, h3⟩
  have TB := Lib.hid (Tol.of h1 H.out.old2)
  replace H := Lib.hid h2
  clear h1 h2 h3
  go_wp2_with fail
  have hc := gload_any 4 0 w3 H.out (by first | decide | simp)
  rw [(aw0_101 v)] at hc
  refine hc.mono ?_
  clear hc
  rintro e w4 ⟨C, nC, rfl, h1, h2, h3⟩
  have TC := Lib.hid (Tol.of h1 H.out.old2)
  replace H := Lib.hid h2
  clear h1 h2 h3
  go_wp2_with fail
  refine (gidle_at false (aw0_102 v) w4 H.out).mono ?_
  rintro e w5 ⟨rfl, c2⟩
  replace H := Lib.hid (H.out.keep c2)
  clear c2
  go_wp2_with fail
  have hc := gevict_any 1 w5 H.out (by first | decide | simp)
  rw [(aw0_103 v)] at hc
  refine hc.mono ?_
  clear hc
  rintro e w6 ⟨D, nD, rfl, h1, h2, h3⟩
  have TD := Lib.hid (Tol.of h1 H.out.old2)
  replace H := Lib.hid h2
  clear h1 h2 h3
  go_wp2_with fail
  have hc := gload_any 6 0 w6 H.out (by first | decide | simp)
  rw [(aw0_104 v)] at hc
  refine hc.mono ?_
  clear hc
  rintro e w7 ⟨E, nE, rfl, h1, h2, h3⟩
  have TE := Lib.hid (Tol.of h1 H.out.old2)
  replace H := Lib.hid h2
  clear h1 h2 h3
  go_wp2_with fail
  have hc := greach_any 8 w7 H.out (by first | decide | simp)
  rw [(aw0_105 v)] at hc
  refine hc.mono ?_
  clear hc
  rintro e w8 ⟨F, nF, rfl, h1, h2, h3⟩
  have TF := Lib.hid (Tol.of h1 H.out.old2)
  replace H := Lib.hid h2
  clear h1 h2 h3
  go_wp2_with fail
  have hc := gstore_any 1 3 v w8 H.out (by first | decide | simp)
  rw [(aw0_106 v)] at hc
  refine hc.mono ?_
  clear hc
  rintro e w9 ⟨I, nI, rfl, h1, h2, h3⟩
  have TI := Lib.hid (Tol.of h1 H.out.old2)
  replace H := Lib.hid h2
  clear h1 h2 h3
  go_wp2_with fail
  have hc := gload_any 1 3 w9 H.out (by first | decide | simp)
  rw [(aw0_107 v)] at hc
  refine hc.mono ?_
  clear hc
  rintro e w10 ⟨J, nJ, rfl, h1, h2, h3⟩
  have TJ := Lib.hid (Tol.of h1 H.out.old2)
  replace H := Lib.hid h2
  clear h1 h2 h3
  go_wp2_with fail
  refine (gowns_at 1 true (aw0_108 v) w10 H.out).mono ?_
  rintro e w11 ⟨rfl, c2⟩
  replace H := Lib.hid (H.out.keep c2)
  clear c2
  go_wp2_with fail
  refine (awakes w11 ⟨HT.out.1.keep H.out.1.1 (by simp), HT.out.2.keep H.out.1.1 (by simp)⟩).mono ?_
  rintro e w99 ⟨rfl, c99⟩
  go_wp2_with fail
  go_ret
  exact ⟨rfl, H.out.1.1.trans c99⟩
set_option maxRecDepth 100000 in
theorem awaits_1 (v kd : Int) (h0 : 0 ≤ kd) (h1 : kd ≤ 255) (hk : kd % 3 = 1) (W : World) (hT : Tabs W) : Calls Tryd.prog 9 #[.int .u64 v, .int .u8 kd] W fun e w' => e = .returned (.bool true) ∧ Chg [] W w' := by
  have HT := Lib.hid hT
  clear hT
  go_enter Tryd.func9, Tryd.ntmps9
  try dsimp only [List.append]
  go_wp2_with fail
  refine (gnew_ok 2 2 W W (Chg.refl _ _) (by decide)).mono ?_
  rintro e w1 ⟨g, a, b, rfl, h0, _⟩
  have H := Lib.hid h0
  clear h0
  go_wp2_with fail
  have hc := gstore_any 1 3 v w1 H.out (by first | decide | simp)
  rw [(aw1 v)] at hc
  refine hc.mono ?_
  clear hc
  rintro e w2 ⟨A, nA, rfl, h1, h2, h3⟩
  have TA := Lib.hid (Tol.of h1 H.out.old2)
  replace H := Lib.hid h2
  clear h1 h2 h3
  go_wp2_with fail
  have hc := ghear_any (ms4 10 1 false false) w2 H.out (by first | decide | simp) HT.out
  rw [(aw2 v)] at hc
  refine hc.mono ?_
  clear hc
  rintro e w3 ⟨B, nB, rfl, h1, h2, h3⟩
  have TB := Lib.hid (Tol.of h1 H.out.old2)
  replace H := Lib.hid h2
  clear h1 h2 h3
  go_wp2_with fail
  have hc := gstore_any 4 0 5 w3 H.out (by first | decide | simp)
  rw [(aw1_101 v)] at hc
  refine hc.mono ?_
  clear hc
  rintro e w4 ⟨C, nC, rfl, h1, h2, h3⟩
  have TC := Lib.hid (Tol.of h1 H.out.old2)
  replace H := Lib.hid h2
  clear h1 h2 h3
  go_wp2_with fail
  refine (gidle_at false (aw1_102 v) w4 H.out).mono ?_
  rintro e w5 ⟨rfl, c2⟩
  replace H := Lib.hid (H.out.keep c2)
  clear c2
  go_wp2_with fail
  have hc := gevict_any 1 w5 H.out (by first | decide | simp)
  rw [(aw1_103 v)] at hc
  refine hc.mono ?_
  clear hc
  rintro e w6 ⟨D, nD, rfl, h1, h2, h3⟩
  have TD := Lib.hid (Tol.of h1 H.out.old2)
  replace H := Lib.hid h2
  clear h1 h2 h3
  go_wp2_with fail
  have hc := gload_any 6 0 w6 H.out (by first | decide | simp)
  rw [(aw1_104 v)] at hc
  refine hc.mono ?_
  clear hc
  rintro e w7 ⟨E, nE, rfl, h1, h2, h3⟩
  have TE := Lib.hid (Tol.of h1 H.out.old2)
  replace H := Lib.hid h2
  clear h1 h2 h3
  go_wp2_with fail
  have hc := greach_any 8 w7 H.out (by first | decide | simp)
  rw [(aw1_105 v)] at hc
  refine hc.mono ?_
  clear hc
  rintro e w8 ⟨F, nF, rfl, h1, h2, h3⟩
  have TF := Lib.hid (Tol.of h1 H.out.old2)
  replace H := Lib.hid h2
  clear h1 h2 h3
  go_wp2_with fail
  have hc := gstore_any 1 3 v w8 H.out (by first | decide | simp)
  rw [(aw1_106 v)] at hc
  refine hc.mono ?_
  clear hc
  rintro e w9 ⟨I, nI, rfl, h1, h2, h3⟩
  have TI := Lib.hid (Tol.of h1 H.out.old2)
  replace H := Lib.hid h2
  clear h1 h2 h3
  go_wp2_with fail
  have hc := gload_any 1 3 w9 H.out (by first | decide | simp)
  rw [(aw1_107 v)] at hc
  refine hc.mono ?_
  clear hc
  rintro e w10 ⟨J, nJ, rfl, h1, h2, h3⟩
  have TJ := Lib.hid (Tol.of h1 H.out.old2)
  replace H := Lib.hid h2
  clear h1 h2 h3
  go_wp2_with fail
  refine (gowns_at 1 true (aw1_108 v) w10 H.out).mono ?_
  rintro e w11 ⟨rfl, c2⟩
  replace H := Lib.hid (H.out.keep c2)
  clear c2
  go_wp2_with fail
  refine (awakes w11 ⟨HT.out.1.keep H.out.1.1 (by simp), HT.out.2.keep H.out.1.1 (by simp)⟩).mono ?_
  rintro e w99 ⟨rfl, c99⟩
  go_wp2_with fail
  go_ret
  exact ⟨rfl, H.out.1.1.trans c99⟩
set_option maxRecDepth 100000 in
theorem awaits_2 (v kd : Int) (h0 : 0 ≤ kd) (h1 : kd ≤ 255) (hk : kd % 3 = 2) (W : World) (hT : Tabs W) : Calls Tryd.prog 9 #[.int .u64 v, .int .u8 kd] W fun e w' => e = .returned (.bool true) ∧ Chg [] W w' := by
  have HT := Lib.hid hT
  clear hT
  go_enter Tryd.func9, Tryd.ntmps9
  try dsimp only [List.append]
  go_wp2_with fail
  refine (gnew_ok 2 2 W W (Chg.refl _ _) (by decide)).mono ?_
  rintro e w1 ⟨g, a, b, rfl, h0, _⟩
  have H := Lib.hid h0
  clear h0
  go_wp2_with fail
  have hc := gstore_any 1 3 v w1 H.out (by first | decide | simp)
  rw [(aw1 v)] at hc
  refine hc.mono ?_
  clear hc
  rintro e w2 ⟨A, nA, rfl, h1, h2, h3⟩
  have TA := Lib.hid (Tol.of h1 H.out.old2)
  replace H := Lib.hid h2
  clear h1 h2 h3
  go_wp2_with fail
  have hc := ghear_any (ms4 10 1 false false) w2 H.out (by first | decide | simp) HT.out
  rw [(aw2 v)] at hc
  refine hc.mono ?_
  clear hc
  rintro e w3 ⟨B, nB, rfl, h1, h2, h3⟩
  have TB := Lib.hid (Tol.of h1 H.out.old2)
  replace H := Lib.hid h2
  clear h1 h2 h3
  go_wp2_with fail
  have hc := gevict_any 1 w3 H.out (by first | decide | simp)
  rw [(aw2_101 v)] at hc
  refine hc.mono ?_
  clear hc
  rintro e w4 ⟨C, nC, rfl, h1, h2, h3⟩
  have TC := Lib.hid (Tol.of h1 H.out.old2)
  replace H := Lib.hid h2
  clear h1 h2 h3
  go_wp2_with fail
  refine (gidle_at false (aw2_102 v) w4 H.out).mono ?_
  rintro e w5 ⟨rfl, c2⟩
  replace H := Lib.hid (H.out.keep c2)
  clear c2
  go_wp2_with fail
  have hc := gevict_any 1 w5 H.out (by first | decide | simp)
  rw [(aw2_103 v)] at hc
  refine hc.mono ?_
  clear hc
  rintro e w6 ⟨D, nD, rfl, h1, h2, h3⟩
  have TD := Lib.hid (Tol.of h1 H.out.old2)
  replace H := Lib.hid h2
  clear h1 h2 h3
  go_wp2_with fail
  have hc := gload_any 6 0 w6 H.out (by first | decide | simp)
  rw [(aw2_104 v)] at hc
  refine hc.mono ?_
  clear hc
  rintro e w7 ⟨E, nE, rfl, h1, h2, h3⟩
  have TE := Lib.hid (Tol.of h1 H.out.old2)
  replace H := Lib.hid h2
  clear h1 h2 h3
  go_wp2_with fail
  have hc := greach_any 8 w7 H.out (by first | decide | simp)
  rw [(aw2_105 v)] at hc
  refine hc.mono ?_
  clear hc
  rintro e w8 ⟨F, nF, rfl, h1, h2, h3⟩
  have TF := Lib.hid (Tol.of h1 H.out.old2)
  replace H := Lib.hid h2
  clear h1 h2 h3
  go_wp2_with fail
  have hc := gload_any 1 3 w8 H.out (by first | decide | simp)
  rw [(aw2_106 v)] at hc
  refine hc.mono ?_
  clear hc
  rintro e w9 ⟨I, nI, rfl, h1, h2, h3⟩
  have TI := Lib.hid (Tol.of h1 H.out.old2)
  replace H := Lib.hid h2
  clear h1 h2 h3
  go_wp2_with fail
  refine (gowns_at 1 false (aw2_107 v) w9 H.out).mono ?_
  rintro e w10 ⟨rfl, c2⟩
  replace H := Lib.hid (H.out.keep c2)
  clear c2
  go_wp2_with fail
  refine (awakes w10 ⟨HT.out.1.keep H.out.1.1 (by simp), HT.out.2.keep H.out.1.1 (by simp)⟩).mono ?_
  rintro e w99 ⟨rfl, c99⟩
  go_wp2_with fail
  go_ret
  exact ⟨rfl, H.out.1.1.trans c99⟩
theorem awaits_any (v kd : Int) (h0 : 0 ≤ kd) (h1 : kd ≤ 255) (W : World) (hT : Tabs W) : Calls Tryd.prog 9 #[.int .u64 v, .int .u8 kd] W fun e w' => e = .returned (.bool true) ∧ Chg [] W w' := by
  have h : kd % 3 = 0 ∨ kd % 3 = 1 ∨ kd % 3 = 2 := by omega
  rcases h with h | h | h
  · exact awaits_0 v kd h0 h1 h W hT
  · exact awaits_1 v kd h0 h1 h W hT
  · exact awaits_2 v kd h0 h1 h W hT
end Go.Proofs.YtakjbgnnajdloaaDoor
