/- Agr: walked. No condition. -/
import Derived.Test.YtakjbgnnajdloaaDoorAgf
import Derived.Test.YtakjbgnnajdloaaDoorAgm
import Derived.Test.YtakjbgnnajdloaaDoorArrw
import Derived.Test.YtakjbgnnajdloaaDoorMsgr
import Derived.BigQuiet
import Derived.Deep.RegionWith
import Derived.Deep.RegionHeld3
import Derived.Deep.QuietTactic
import Derived.Deep.Cut
import Derived.Deep.CutBlock
import Derived.Deep.CutRange
import Derived.Deep.DeepCutAuto
namespace Go.Proofs.YtakjbgnnajdloaaDoor
open Go.RowKit
set_option linter.unusedVariables false
set_option maxHeartbeats 1000000
attribute [local go_sem ↓] append_appS copy_copS clear_clrS make_mkS cell_row frozen_row loadLine storeLine loadSlot storeSlot heap_drew heap_drewN heap_alloc heap_past heap_setCell heap_putRow vs_get slc_st slc_li slc_us slice_slS loadMsg storeMsg loadHas storeHas msc_kd msc_li msc_di msc_ke
attribute [local go_sem] rowCell_some rowFrozen_some rowHas_some rowIn_some rowPart_full rowPart_lit rowPut_full rowPut_lit rowSet_some size_putRow vs_size vs_one wideLine wideSlot run_loadS run_storeS run_appS run_copS run_clrS run_mkS loadW_at storeW_at fit_all fit_le one_int one_bool one_pointer one_slice allOne_list putRow_new ne_size1 ne_size2 ne_size3 ne_size4 zero8_length line_eq lit8 slc_size slc_one slc_part slc_in fold_slt fold_slc slc_set_us wideMsg wideHas run_slS msc_size msc_one msc_part msc_in fold_msc msc_putDi msc_putKe msc_putX msc_has ms4_lit ms4_k ms4_l ms4_e
attribute [local simp ↓] heap_drew heap_drewN heap_alloc heap_past heap_setCell heap_putRow
attribute [local simp] rowCell_some rowFrozen_some rowHas_some rowIn_some rowPart_full rowPart_lit rowPut_full rowPut_lit rowSet_some size_putRow vs_size fit_all putRow_new ne_size1 ne_size2 ne_size3 ne_size4 zero8_length slc_size msc_size msc_putDi msc_putKe msc_putX msc_has fit_le ms4_k ms4_l ms4_e

theorem art1 (v : Int) : storeF 1 2 ((List.replicate (1 * 2) sltZ, 0) : Sta) 0 0 v = (([⟨5, 0, zl8, 1, rfl⟩, sltZ], 1), (false, [ms4 2 0 false false])) := by rfl
theorem art2 (v : Int) : hearF 1 2 ([⟨5, 0, zl8, 1, rfl⟩, sltZ], 1) (ms4 10 0 false false) = (([⟨2, 0, zl8, 2, rfl⟩, sltZ], 2), ([], 0)) := by rfl
theorem art3 (v : Int) : storeF 1 2 ([⟨2, 0, zl8, 2, rfl⟩, sltZ], 2) 0 0 v = (([⟨3, 0, (zl8.set 0 v), 3, rfl⟩, sltZ], 3), (true, [])) := by rfl
theorem art4 (v : Int) : storeF 1 2 ([⟨3, 0, (zl8.set 0 v), 3, rfl⟩, sltZ], 3) 1 0 v = (([⟨3, 0, (zl8.set 0 v), 3, rfl⟩, ⟨5, 1, zl8, 4, rfl⟩], 4), (false, [ms4 2 1 false false])) := by rfl
theorem art5 (v : Int) : hearF 1 2 ([⟨3, 0, (zl8.set 0 v), 3, rfl⟩, ⟨5, 1, zl8, 4, rfl⟩], 4) (ms4 10 1 false false) = (([⟨3, 0, (zl8.set 0 v), 3, rfl⟩, ⟨2, 1, zl8, 5, rfl⟩], 5), ([], 0)) := by rfl
theorem art6 (v : Int) : storeF 1 2 ([⟨3, 0, (zl8.set 0 v), 3, rfl⟩, ⟨2, 1, zl8, 5, rfl⟩], 5) 1 0 v = (([⟨3, 0, (zl8.set 0 v), 3, rfl⟩, ⟨3, 1, (zl8.set 0 v), 6, rfl⟩], 6), (true, [])) := by rfl
theorem art7 (v : Int) : loadF 1 2 ([⟨3, 0, (zl8.set 0 v), 3, rfl⟩, ⟨3, 1, (zl8.set 0 v), 6, rfl⟩], 6) 5 0 = (([⟨9, 0, (zl8.set 0 v), 7, rfl⟩, ⟨3, 1, (zl8.set 0 v), 6, rfl⟩], 7), (0, false, [⟨3, 0, true, false, (zl8.set 0 v), rfl⟩])) := by rfl
theorem art8 (v : Int) : loadF 1 2 ([⟨9, 0, (zl8.set 0 v), 7, rfl⟩, ⟨3, 1, (zl8.set 0 v), 6, rfl⟩], 7) 5 0 = (([⟨9, 0, (zl8.set 0 v), 7, rfl⟩, ⟨3, 1, (zl8.set 0 v), 6, rfl⟩], 7), (0, false, [])) := by rfl
theorem art9 (v : Int) : hearF 1 2 ([⟨9, 0, (zl8.set 0 v), 7, rfl⟩, ⟨3, 1, (zl8.set 0 v), 6, rfl⟩], 7) (ms4 11 0 false false) = (([sltZ, ⟨3, 1, (zl8.set 0 v), 6, rfl⟩], 7), ([], 0)) := by rfl
theorem art10 (v : Int) : loadF 1 2 ([sltZ, ⟨3, 1, (zl8.set 0 v), 6, rfl⟩], 7) 5 0 = (([⟨4, 5, zl8, 8, rfl⟩, ⟨3, 1, (zl8.set 0 v), 6, rfl⟩], 8), (0, false, [ms4 1 5 false false])) := by rfl
set_option maxRecDepth 100000 in
theorem aroom_true (v : Int) (W : World) (hT : Tabs W) : Calls Tryd.prog 8 #[.int .u64 v, .bool true] W fun e w' => e = .returned (.bool true) ∧ Chg [] W w' := by
  have HT := Lib.hid hT
  clear hT
  go_enter Tryd.func8, Tryd.ntmps8
  try dsimp only [List.append]
  go_wp2_with fail
  refine (gnew_ok 1 2 W W (Chg.refl _ _) (by decide)).mono ?_
  rintro e w1 ⟨g, a, b, rfl, h0, _⟩
  have H := Lib.hid h0
  clear h0
  go_wp2_with fail
  go_loopw [7] (fun i wr => (i = .int .i64 0 ∧ Agt W wr g a b 1 2 ((List.replicate (1 * 2) sltZ, 0) : Sta)) ∨ (i = .int .i64 1 ∧ Agt W wr g a b 1 2 ([⟨3, 0, (zl8.set 0 v), 3, rfl⟩, sltZ], 3)) ∨ (i = .int .i64 2 ∧ Agt W wr g a b 1 2 ([⟨3, 0, (zl8.set 0 v), 3, rfl⟩, ⟨3, 1, (zl8.set 0 v), 6, rfl⟩], 6))) (fun i _ => 2 - (intOf i).toNat)
  case atStart => exact .inl ⟨rfl, H.out⟩
  case round =>
    clear H
    rcases hrel with ⟨rfl, h0⟩ | ⟨rfl, h0⟩ | ⟨rfl, h0⟩
    · have H := Lib.hid h0
      clear h0
      go_wp2_with fail
      have hc := gstore_any 0 0 v wr H.out (by first | decide | simp)
      rw [(art1 v)] at hc
      refine hc.mono ?_
      clear hc
      rintro e w2 ⟨A, nA, rfl, h1, h2, h3⟩
      have TA := Lib.hid (Tol.of h1 H.out.old2)
      replace H := Lib.hid h2
      clear h1 h2 h3
      go_wp2_with fail
      have hc := ghear_any (ms4 10 0 false false) w2 H.out (by first | decide | simp) HT.out
      rw [(art2 v)] at hc
      refine hc.mono ?_
      clear hc
      rintro e w3 ⟨B, nB, rfl, h1, h2, h3⟩
      have TB := Lib.hid (Tol.of h1 H.out.old2)
      replace H := Lib.hid h2
      clear h1 h2 h3
      go_wp2_with fail
      have hc := gstore_any 0 0 v w3 H.out (by first | decide | simp)
      rw [(art3 v)] at hc
      refine hc.mono ?_
      clear hc
      rintro e w4 ⟨C, nC, rfl, h1, h2, h3⟩
      have TC := Lib.hid (Tol.of h1 H.out.old2)
      replace H := Lib.hid h2
      clear h1 h2 h3
      go_wp2_with fail
      go_roundw
      case rel => exact .inr (.inl ⟨by go_num, H.out⟩)
      case measure => simp [intOf]
    · have H := Lib.hid h0
      clear h0
      go_wp2_with fail
      have hc := gstore_any 1 0 v wr H.out (by first | decide | simp)
      rw [(art4 v)] at hc
      refine hc.mono ?_
      clear hc
      rintro e w2 ⟨A, nA, rfl, h1, h2, h3⟩
      have TA := Lib.hid (Tol.of h1 H.out.old2)
      replace H := Lib.hid h2
      clear h1 h2 h3
      go_wp2_with fail
      have hc := ghear_any (ms4 10 1 false false) w2 H.out (by first | decide | simp) HT.out
      rw [(art5 v)] at hc
      refine hc.mono ?_
      clear hc
      rintro e w3 ⟨B, nB, rfl, h1, h2, h3⟩
      have TB := Lib.hid (Tol.of h1 H.out.old2)
      replace H := Lib.hid h2
      clear h1 h2 h3
      go_wp2_with fail
      have hc := gstore_any 1 0 v w3 H.out (by first | decide | simp)
      rw [(art6 v)] at hc
      refine hc.mono ?_
      clear hc
      rintro e w4 ⟨C, nC, rfl, h1, h2, h3⟩
      have TC := Lib.hid (Tol.of h1 H.out.old2)
      replace H := Lib.hid h2
      clear h1 h2 h3
      go_wp2_with fail
      go_roundw
      case rel => exact .inr (.inr ⟨by go_num, H.out⟩)
      case measure => simp [intOf]
    · have H := Lib.hid h0
      clear h0
      go_wp2_with fail
      have hc := gload_any 5 0 wr H.out (by first | decide | simp)
      rw [(art7 v)] at hc
      refine hc.mono ?_
      clear hc
      rintro e w3 ⟨B, nB, rfl, h1, h2, h3⟩
      have TB := Lib.hid (Tol.of h1 H.out.old2)
      replace H := Lib.hid h2
      clear h1 h2 h3
      obtain ⟨bB, oB, csB, tB, fB, rfl, rwB, rB0, rB1, rB2, rB3, rB4, rB5, rB6⟩ := TB.out.msg (i := 0) rfl
      simp only [Nat.zero_mul, Nat.add_zero] at rB0 rB1 rB2 rB3 rB4 rB5 rB6
      have rBw0 := (rB4 0 (by omega)).trans (show _ = some (Value.int .u64 (v)) from rfl)
      clear rB4
      go_wp2_with fail
      have hc := gload_any 5 0 w3 H.out (by first | decide | simp)
      rw [(art8 v)] at hc
      refine hc.mono ?_
      clear hc
      rintro e w4 ⟨C, nC, rfl, h1, h2, h3⟩
      have TC := Lib.hid (Tol.of h1 H.out.old2)
      replace H := Lib.hid h2
      clear h1 h2 h3
      go_wp2_with fail
      have hc := ghear_any (ms4 11 0 false false) w4 H.out (by first | decide | simp) HT.out
      rw [(art9 v)] at hc
      refine hc.mono ?_
      clear hc
      rintro e w5 ⟨D, nD, rfl, h1, h2, h3⟩
      have TD := Lib.hid (Tol.of h1 H.out.old2)
      replace H := Lib.hid h2
      clear h1 h2 h3
      go_wp2_with fail
      have hc := gload_any 5 0 w5 H.out (by first | decide | simp)
      rw [(art10 v)] at hc
      refine hc.mono ?_
      clear hc
      rintro e w6 ⟨E, nE, rfl, h1, h2, h3⟩
      have TE := Lib.hid (Tol.of h1 H.out.old2)
      replace H := Lib.hid h2
      clear h1 h2 h3
      obtain ⟨bE, oE, csE, tE, fE, rfl, rwE, rE0, rE1, rE2, rE3, rE4, rE5, rE6⟩ := TE.out.msg (i := 0) rfl
      simp only [Nat.zero_mul, Nat.add_zero] at rE0 rE1 rE2 rE3 rE4 rE5 rE6
      clear rE4
      go_wp2_with fail
      refine (gslots_len 2 (by rfl) w6 H.out).mono ?_
      rintro e w7 ⟨AS, nS, rfl, c2⟩
      replace H := Lib.hid (H.out.keep c2)
      clear c2
      go_wp2_with fail
      refine (awakes w7 ⟨HT.out.1.keep H.out.1.1 (by simp), HT.out.2.keep H.out.1.1 (by simp)⟩).mono ?_
      rintro e w99 ⟨rfl, c99⟩
      go_wp2_with fail
      go_ret
      exact ⟨rfl, H.out.1.1.trans c99⟩
theorem arf1 (v : Int) : storeF 1 2 ((List.replicate (1 * 2) sltZ, 0) : Sta) 0 0 v = (([⟨5, 0, zl8, 1, rfl⟩, sltZ], 1), (false, [ms4 2 0 false false])) := by rfl
theorem arf2 (v : Int) : hearF 1 2 ([⟨5, 0, zl8, 1, rfl⟩, sltZ], 1) (ms4 10 0 false false) = (([⟨2, 0, zl8, 2, rfl⟩, sltZ], 2), ([], 0)) := by rfl
theorem arf3 (v : Int) : storeF 1 2 ([⟨2, 0, zl8, 2, rfl⟩, sltZ], 2) 1 0 v = (([⟨2, 0, zl8, 2, rfl⟩, ⟨5, 1, zl8, 3, rfl⟩], 3), (false, [ms4 2 1 false false])) := by rfl
theorem arf4 (v : Int) : hearF 1 2 ([⟨2, 0, zl8, 2, rfl⟩, ⟨5, 1, zl8, 3, rfl⟩], 3) (ms4 10 1 false false) = (([⟨2, 0, zl8, 2, rfl⟩, ⟨2, 1, zl8, 4, rfl⟩], 4), ([], 0)) := by rfl
theorem arf5 (v : Int) : storeF 1 2 ([⟨2, 0, zl8, 2, rfl⟩, ⟨2, 1, zl8, 4, rfl⟩], 4) 1 0 v = (([⟨2, 0, zl8, 2, rfl⟩, ⟨3, 1, (zl8.set 0 v), 5, rfl⟩], 5), (true, [])) := by rfl
theorem arf6 (v : Int) : loadF 1 2 ([⟨2, 0, zl8, 2, rfl⟩, ⟨3, 1, (zl8.set 0 v), 5, rfl⟩], 5) 1 0 = (([⟨2, 0, zl8, 2, rfl⟩, ⟨3, 1, (zl8.set 0 v), 6, rfl⟩], 6), (v, true, [])) := by rfl
theorem arf7 (v : Int) : loadF 1 2 ([⟨2, 0, zl8, 2, rfl⟩, ⟨3, 1, (zl8.set 0 v), 6, rfl⟩], 6) 5 0 = (([⟨7, 0, zl8, 7, rfl⟩, ⟨3, 1, (zl8.set 0 v), 6, rfl⟩], 7), (0, false, [ms4 3 0 false false])) := by rfl
theorem arf8 (v : Int) : loadF 1 2 ([⟨7, 0, zl8, 7, rfl⟩, ⟨3, 1, (zl8.set 0 v), 6, rfl⟩], 7) 5 0 = (([⟨7, 0, zl8, 7, rfl⟩, ⟨3, 1, (zl8.set 0 v), 6, rfl⟩], 7), (0, false, [])) := by rfl
theorem arf9 (v : Int) : hearF 1 2 ([⟨7, 0, zl8, 7, rfl⟩, ⟨3, 1, (zl8.set 0 v), 6, rfl⟩], 7) (ms4 11 0 false false) = (([sltZ, ⟨3, 1, (zl8.set 0 v), 6, rfl⟩], 7), ([], 0)) := by rfl
theorem arf10 (v : Int) : loadF 1 2 ([sltZ, ⟨3, 1, (zl8.set 0 v), 6, rfl⟩], 7) 5 0 = (([⟨4, 5, zl8, 8, rfl⟩, ⟨3, 1, (zl8.set 0 v), 6, rfl⟩], 8), (0, false, [ms4 1 5 false false])) := by rfl
set_option maxRecDepth 100000 in
theorem aroom_false (v : Int) (W : World) (hT : Tabs W) : Calls Tryd.prog 8 #[.int .u64 v, .bool false] W fun e w' => e = .returned (.bool true) ∧ Chg [] W w' := by
  have HT := Lib.hid hT
  clear hT
  go_enter Tryd.func8, Tryd.ntmps8
  try dsimp only [List.append]
  go_wp2_with fail
  refine (gnew_ok 1 2 W W (Chg.refl _ _) (by decide)).mono ?_
  rintro e w1 ⟨g, a, b, rfl, h0, _⟩
  have H := Lib.hid h0
  clear h0
  go_wp2_with fail
  go_loopw [7] (fun i wr => (i = .int .i64 0 ∧ Agt W wr g a b 1 2 ((List.replicate (1 * 2) sltZ, 0) : Sta)) ∨ (i = .int .i64 1 ∧ Agt W wr g a b 1 2 ([⟨2, 0, zl8, 2, rfl⟩, sltZ], 2)) ∨ (i = .int .i64 2 ∧ Agt W wr g a b 1 2 ([⟨2, 0, zl8, 2, rfl⟩, ⟨3, 1, (zl8.set 0 v), 5, rfl⟩], 5))) (fun i _ => 2 - (intOf i).toNat)
  case atStart => exact .inl ⟨rfl, H.out⟩
  case round =>
    clear H
    rcases hrel with ⟨rfl, h0⟩ | ⟨rfl, h0⟩ | ⟨rfl, h0⟩
    · have H := Lib.hid h0
      clear h0
      go_wp2_with fail
      have hc := gstore_any 0 0 v wr H.out (by first | decide | simp)
      rw [(arf1 v)] at hc
      refine hc.mono ?_
      clear hc
      rintro e w2 ⟨A, nA, rfl, h1, h2, h3⟩
      have TA := Lib.hid (Tol.of h1 H.out.old2)
      replace H := Lib.hid h2
      clear h1 h2 h3
      go_wp2_with fail
      have hc := ghear_any (ms4 10 0 false false) w2 H.out (by first | decide | simp) HT.out
      rw [(arf2 v)] at hc
      refine hc.mono ?_
      clear hc
      rintro e w3 ⟨B, nB, rfl, h1, h2, h3⟩
      have TB := Lib.hid (Tol.of h1 H.out.old2)
      replace H := Lib.hid h2
      clear h1 h2 h3
      go_wp2_with fail
      go_roundw
      case rel => exact .inr (.inl ⟨by go_num, H.out⟩)
      case measure => simp [intOf]
    · have H := Lib.hid h0
      clear h0
      go_wp2_with fail
      have hc := gstore_any 1 0 v wr H.out (by first | decide | simp)
      rw [(arf3 v)] at hc
      refine hc.mono ?_
      clear hc
      rintro e w2 ⟨A, nA, rfl, h1, h2, h3⟩
      have TA := Lib.hid (Tol.of h1 H.out.old2)
      replace H := Lib.hid h2
      clear h1 h2 h3
      go_wp2_with fail
      have hc := ghear_any (ms4 10 1 false false) w2 H.out (by first | decide | simp) HT.out
      rw [(arf4 v)] at hc
      refine hc.mono ?_
      clear hc
      rintro e w3 ⟨B, nB, rfl, h1, h2, h3⟩
      have TB := Lib.hid (Tol.of h1 H.out.old2)
      replace H := Lib.hid h2
      clear h1 h2 h3
      go_wp2_with fail
      have hc := gstore_any 1 0 v w3 H.out (by first | decide | simp)
      rw [(arf5 v)] at hc
      refine hc.mono ?_
      clear hc
      rintro e w4 ⟨C, nC, rfl, h1, h2, h3⟩
      have TC := Lib.hid (Tol.of h1 H.out.old2)
      replace H := Lib.hid h2
      clear h1 h2 h3
      go_wp2_with fail
      go_roundw
      case rel => exact .inr (.inr ⟨by go_num, H.out⟩)
      case measure => simp [intOf]
    · have H := Lib.hid h0
      clear h0
      go_wp2_with fail
      have hc := gload_any 1 0 wr H.out (by first | decide | simp)
      rw [(arf6 v)] at hc
      refine hc.mono ?_
      clear hc
      rintro e w2 ⟨A, nA, rfl, h1, h2, h3⟩
      have TA := Lib.hid (Tol.of h1 H.out.old2)
      replace H := Lib.hid h2
      clear h1 h2 h3
      go_wp2_with fail
      have hc := gload_any 5 0 w2 H.out (by first | decide | simp)
      rw [(arf7 v)] at hc
      refine hc.mono ?_
      clear hc
      rintro e w3 ⟨B, nB, rfl, h1, h2, h3⟩
      have TB := Lib.hid (Tol.of h1 H.out.old2)
      replace H := Lib.hid h2
      clear h1 h2 h3
      obtain ⟨bB, oB, csB, tB, fB, rfl, rwB, rB0, rB1, rB2, rB3, rB4, rB5, rB6⟩ := TB.out.msg (i := 0) rfl
      simp only [Nat.zero_mul, Nat.add_zero] at rB0 rB1 rB2 rB3 rB4 rB5 rB6
      clear rB4
      go_wp2_with fail
      have hc := gload_any 5 0 w3 H.out (by first | decide | simp)
      rw [(arf8 v)] at hc
      refine hc.mono ?_
      clear hc
      rintro e w4 ⟨C, nC, rfl, h1, h2, h3⟩
      have TC := Lib.hid (Tol.of h1 H.out.old2)
      replace H := Lib.hid h2
      clear h1 h2 h3
      go_wp2_with fail
      have hc := ghear_any (ms4 11 0 false false) w4 H.out (by first | decide | simp) HT.out
      rw [(arf9 v)] at hc
      refine hc.mono ?_
      clear hc
      rintro e w5 ⟨D, nD, rfl, h1, h2, h3⟩
      have TD := Lib.hid (Tol.of h1 H.out.old2)
      replace H := Lib.hid h2
      clear h1 h2 h3
      go_wp2_with fail
      have hc := gload_any 5 0 w5 H.out (by first | decide | simp)
      rw [(arf10 v)] at hc
      refine hc.mono ?_
      clear hc
      rintro e w6 ⟨E, nE, rfl, h1, h2, h3⟩
      have TE := Lib.hid (Tol.of h1 H.out.old2)
      replace H := Lib.hid h2
      clear h1 h2 h3
      obtain ⟨bE, oE, csE, tE, fE, rfl, rwE, rE0, rE1, rE2, rE3, rE4, rE5, rE6⟩ := TE.out.msg (i := 0) rfl
      simp only [Nat.zero_mul, Nat.add_zero] at rE0 rE1 rE2 rE3 rE4 rE5 rE6
      clear rE4
      go_wp2_with fail
      refine (gslots_len 2 (by rfl) w6 H.out).mono ?_
      rintro e w7 ⟨AS, nS, rfl, c2⟩
      replace H := Lib.hid (H.out.keep c2)
      clear c2
      go_wp2_with fail
      refine (awakes w7 ⟨HT.out.1.keep H.out.1.1 (by simp), HT.out.2.keep H.out.1.1 (by simp)⟩).mono ?_
      rintro e w99 ⟨rfl, c99⟩
      go_wp2_with fail
      go_ret
      exact ⟨rfl, H.out.1.1.trans c99⟩
theorem aroom_all (v : Int) (d : Bool) (W : World) (hT : Tabs W) : Calls Tryd.prog 8 #[.int .u64 v, .bool d] W fun e w' => e = .returned (.bool true) ∧ Chg [] W w' := by
  cases d
  · exact aroom_false v W hT
  · exact aroom_true v W hT
end Go.Proofs.YtakjbgnnajdloaaDoor
