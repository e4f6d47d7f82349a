/- Agu: walked. No condition. -/
import Derived.Test.YtakjbgnnajdloaaDoorAgf
import Derived.Test.YtakjbgnnajdloaaDoorAgm
import Derived.Test.YtakjbgnnajdloaaDoorArrw
import Derived.Test.YtakjbgnnajdloaaDoorMsgr
import Derived.BigQuiet
import Derived.Deep.RegionWith
import Derived.Deep.RegionHeld3
import Derived.Deep.QuietTactic
import Derived.Deep.Cut
import Derived.Deep.CutBlock
import Derived.Deep.CutRange
import Derived.Deep.DeepCutAuto
namespace Go.Proofs.YtakjbgnnajdloaaDoor
open Go.RowKit
set_option linter.unusedVariables false
set_option maxHeartbeats 1000000
attribute [local go_sem ↓] append_appS copy_copS clear_clrS make_mkS cell_row frozen_row loadLine storeLine loadSlot storeSlot heap_drew heap_drewN heap_alloc heap_past heap_setCell heap_putRow vs_get slc_st slc_li slc_us slice_slS loadMsg storeMsg loadHas storeHas msc_kd msc_li msc_di msc_ke
attribute [local go_sem] rowCell_some rowFrozen_some rowHas_some rowIn_some rowPart_full rowPart_lit rowPut_full rowPut_lit rowSet_some size_putRow vs_size vs_one wideLine wideSlot run_loadS run_storeS run_appS run_copS run_clrS run_mkS loadW_at storeW_at fit_all fit_le one_int one_bool one_pointer one_slice allOne_list putRow_new ne_size1 ne_size2 ne_size3 ne_size4 zero8_length line_eq lit8 slc_size slc_one slc_part slc_in fold_slt fold_slc slc_set_us wideMsg wideHas run_slS msc_size msc_one msc_part msc_in fold_msc msc_putDi msc_putKe msc_putX msc_has ms4_lit ms4_k ms4_l ms4_e
attribute [local simp ↓] heap_drew heap_drewN heap_alloc heap_past heap_setCell heap_putRow
attribute [local simp] rowCell_some rowFrozen_some rowHas_some rowIn_some rowPart_full rowPart_lit rowPut_full rowPut_lit rowSet_some size_putRow vs_size fit_all putRow_new ne_size1 ne_size2 ne_size3 ne_size4 zero8_length slc_size msc_size msc_putDi msc_putKe msc_putX msc_has fit_le ms4_k ms4_l ms4_e

theorem au1 (a b : List Int) (ha : a.length = 8) (hb : b.length = 8) (K : Nat) (hK : K < 8) : loadF 1 2 ((List.replicate (1 * 2) sltZ, 0) : Sta) 3 (K : Int) = (([⟨4, 3, zl8, 1, rfl⟩, sltZ], 1), (0, false, [ms4 1 3 false false])) := by
  unfold loadF
  rw [if_pos (by simp [isLn, isWd]; omega)]
  rfl
theorem au2 (a b : List Int) (ha : a.length = 8) (hb : b.length = 8) (K : Nat) (hK : K < 8) : hearF 1 2 ([⟨4, 3, zl8, 1, rfl⟩, sltZ], 1) (ms5 8 3 a ha) = (([⟨1, 3, a, 2, ha⟩, sltZ], 2), ([], 0)) := by rfl
theorem au3 (a b : List Int) (ha : a.length = 8) (hb : b.length = 8) (K : Nat) (hK : K < 8) : storeF 1 2 ([⟨1, 3, a, 2, ha⟩, sltZ], 2) 3 (K : Int) 77 = (([⟨6, 3, a, 3, ha⟩, sltZ], 3), (false, [ms4 2 3 false false])) := by
  unfold storeF
  rw [if_pos (by simp [isLn, isWd]; omega)]
  rfl
theorem au4 (a b : List Int) (ha : a.length = 8) (hb : b.length = 8) (K : Nat) (hK : K < 8) : loadF 1 2 ([⟨6, 3, a, 3, ha⟩, sltZ], 3) 3 (K : Int) = (([⟨6, 3, a, 4, ha⟩, sltZ], 4), ((a.getD K 0), true, [])) := by
  unfold loadF
  rw [if_pos (by simp [isLn, isWd]; omega)]
  rfl
theorem au5 (a b : List Int) (ha : a.length = 8) (hb : b.length = 8) (K : Nat) (hK : K < 8) : hearF 1 2 ([⟨6, 3, a, 4, ha⟩, sltZ], 4) (ms4 12 3 false false) = (([⟨5, 3, zl8, 5, rfl⟩, sltZ], 5), ([ms4 6 3 false false], 0)) := by rfl
theorem au6 (a b : List Int) (ha : a.length = 8) (hb : b.length = 8) (K : Nat) (hK : K < 8) : loadF 1 2 ([⟨5, 3, zl8, 5, rfl⟩, sltZ], 5) 3 (K : Int) = (([⟨5, 3, zl8, 5, rfl⟩, sltZ], 5), (0, false, [])) := by
  unfold loadF
  rw [if_pos (by simp [isLn, isWd]; omega)]
  rfl
theorem au7 (a b : List Int) (ha : a.length = 8) (hb : b.length = 8) (K : Nat) (hK : K < 8) : hearF 1 2 ([⟨5, 3, zl8, 5, rfl⟩, sltZ], 5) (ms5 10 3 b hb) = (([⟨2, 3, b, 6, hb⟩, sltZ], 6), ([], 0)) := by rfl
theorem au8 (a b : List Int) (ha : a.length = 8) (hb : b.length = 8) (K : Nat) (hK : K < 8) : loadF 1 2 ([⟨2, 3, b, 6, hb⟩, sltZ], 6) 3 (K : Int) = (([⟨2, 3, b, 7, hb⟩, sltZ], 7), ((b.getD K 0), true, [])) := by
  unfold loadF
  rw [if_pos (by simp [isLn, isWd]; omega)]
  rfl
theorem au9 (a b : List Int) (ha : a.length = 8) (hb : b.length = 8) (K : Nat) (hK : K < 8) : storeF 1 2 ([⟨2, 3, b, 7, hb⟩, sltZ], 7) 3 (K : Int) 77 = (([⟨3, 3, (b.set K 77), 8, (by rw [List.length_set]; exact hb)⟩, sltZ], 8), (true, [])) := by
  unfold storeF
  rw [if_pos (by simp [isLn, isWd]; omega)]
  rfl
theorem au10 (a b : List Int) (ha : a.length = 8) (hb : b.length = 8) (K : Nat) (hK : K < 8) : ownsB ([⟨3, 3, (b.set K 77), 8, (by rw [List.length_set]; exact hb)⟩, sltZ], 8).1 3 = true := by rfl
set_option maxRecDepth 100000 in
theorem aups_any (x y : List Int) (hx : x.length = 8) (hy : y.length = 8) (n : Int) (h0 : 0 ≤ n) (h1 : n ≤ 255) (W : World) (hT : Tabs W) : Calls Tryd.prog 7 #[.agg (vs x), .agg (vs y), .int .u8 n] W fun e w' => e = .returned (.bool true) ∧ Chg [] W w' := by
  have HT := Lib.hid hT
  clear hT
  obtain ⟨K, hK, hnK⟩ : ∃ K : Nat, K < 8 ∧ n % 8 = K := ⟨(n % 8).toNat, by omega, by omega⟩
  have k1 : (K : Int) < 8 := by omega
  have k0 : (0 : Int) ≤ (K : Int) := by omega
  have gx : x[K]? = some (x.getD K 0) := by rw [List.getD_eq_getElem?_getD, List.getElem?_eq_getElem (by omega)]; rfl
  have gy : y[K]? = some (y.getD K 0) := by rw [List.getD_eq_getElem?_getD, List.getElem?_eq_getElem (by omega)]; rfl
  have mx := ms5_lit 8 3 x hx
  have my := ms5_lit 10 3 y hy
  go_enter Tryd.func7, Tryd.ntmps7
  try dsimp only [List.append]
  go_wp2_with fail
  refine gen_calls2 (w := W) (b1 := W.heap.size) (x1 := .cells (vs x) 33 (0, 0)) (b2 := W.heap.size + 1) (x2 := .cells (vs y) 33 (0, 0)) (by (repeat' (first | with_reducible exact Chg.refl _ _ | with_reducible assumption | with_reducible refine Chg.drew ?_ | with_reducible refine Chg.drewN ?_ _ | with_reducible refine Chg.alloc ?_ _ | with_reducible refine Chg.putRow ?_ _ _ _ (.inr ?_) | with_reducible refine Chg.setCell ?_ _ _ _ (.inr ?_)  | (show _ ≤ _; first | exact Nat.le_refl _ | omega | (simp; done))))) (by simp) (by simp) fun w0 C0 rX rY => ?_
  replace HT := Lib.hid (show Tabs w0 from ⟨HT.out.1.keep C0 (by simp), HT.out.2.keep C0 (by simp)⟩)
  refine (gnew_ok 1 2 w0 w0 (Chg.refl _ _) (by decide)).mono ?_
  rintro e w1 ⟨g, a, b, rfl, h0', c1⟩
  have H := Lib.hid h0'
  have nX := H.out.1.argBlock (lt_heap rX)
  have nY := H.out.1.argBlock (lt_heap rY)
  replace rX := c1.keep rX (by simp)
  replace rY := c1.keep rY (by simp)
  clear h0' c1
  go_wp2_with fail
  have hc := gload_any 3 (K : Int) w1 H.out (by first | decide | simp)
  rw [(au1 x y hx hy K hK)] at hc
  refine hc.mono ?_
  clear hc
  rintro e w2 ⟨A, nA, rfl, h1, h2, h3⟩
  have TA := Lib.hid (Tol.of h1 H.out.old2)
  replace rX := h3.keep rX nX
  replace rY := h3.keep rY nY
  replace H := Lib.hid h2
  clear h1 h2 h3
  go_wp2_with fail
  have hc := ghear_any (ms5 8 3 x hx) w2 H.out (by first | decide | simp) HT.out
  rw [(au2 x y hx hy K hK)] at hc
  refine hc.mono ?_
  clear hc
  rintro e w3 ⟨B, nB, rfl, h1, h2, h3⟩
  have TB := Lib.hid (Tol.of h1 H.out.old2)
  replace rX := h3.keep rX nX
  replace rY := h3.keep rY nY
  replace H := Lib.hid h2
  clear h1 h2 h3
  go_wp2_with fail
  have hc := gstore_any 3 (K : Int) 77 w3 H.out (by first | decide | simp)
  rw [(au3 x y hx hy K hK)] at hc
  refine hc.mono ?_
  clear hc
  rintro e w4 ⟨C, nC, rfl, h1, h2, h3⟩
  have TC := Lib.hid (Tol.of h1 H.out.old2)
  replace rX := h3.keep rX nX
  replace rY := h3.keep rY nY
  replace H := Lib.hid h2
  clear h1 h2 h3
  obtain ⟨bC, oC, csC, tC, fC, rfl, rwC, rC0, rC1, rC2, rC3, rC4, rC5, rC6⟩ := TC.out.msg (i := 0) rfl
  simp only [Nat.zero_mul, Nat.add_zero] at rC0 rC1 rC2 rC3 rC4 rC5 rC6
  clear rC4
  go_wp2_with fail
  have hc := gload_any 3 (K : Int) w4 H.out (by first | decide | simp)
  rw [(au4 x y hx hy K hK)] at hc
  refine hc.mono ?_
  clear hc
  rintro e w5 ⟨D, nD, rfl, h1, h2, h3⟩
  have TD := Lib.hid (Tol.of h1 H.out.old2)
  replace rX := h3.keep rX nX
  replace rY := h3.keep rY nY
  replace H := Lib.hid h2
  clear h1 h2 h3
  go_wp2_with fail
  have hc := ghear_any (ms4 12 3 false false) w5 H.out (by first | decide | simp) HT.out
  rw [(au5 x y hx hy K hK)] at hc
  refine hc.mono ?_
  clear hc
  rintro e w6 ⟨E, nE, rfl, h1, h2, h3⟩
  have TE := Lib.hid (Tol.of h1 H.out.old2)
  replace rX := h3.keep rX nX
  replace rY := h3.keep rY nY
  replace H := Lib.hid h2
  clear h1 h2 h3
  obtain ⟨bE, oE, csE, tE, fE, rfl, rwE, rE0, rE1, rE2, rE3, rE4, rE5, rE6⟩ := TE.out.msg (i := 0) rfl
  simp only [Nat.zero_mul, Nat.add_zero] at rE0 rE1 rE2 rE3 rE4 rE5 rE6
  clear rE4
  go_wp2_with fail
  have hc := gload_any 3 (K : Int) w6 H.out (by first | decide | simp)
  rw [(au6 x y hx hy K hK)] at hc
  refine hc.mono ?_
  clear hc
  rintro e w7 ⟨F, nF, rfl, h1, h2, h3⟩
  have TF := Lib.hid (Tol.of h1 H.out.old2)
  replace rX := h3.keep rX nX
  replace rY := h3.keep rY nY
  replace H := Lib.hid h2
  clear h1 h2 h3
  go_wp2_with fail
  have hc := ghear_any (ms5 10 3 y hy) w7 H.out (by first | decide | simp) HT.out
  rw [(au7 x y hx hy K hK)] at hc
  refine hc.mono ?_
  clear hc
  rintro e w8 ⟨I, nI, rfl, h1, h2, h3⟩
  have TI := Lib.hid (Tol.of h1 H.out.old2)
  replace rX := h3.keep rX nX
  replace rY := h3.keep rY nY
  replace H := Lib.hid h2
  clear h1 h2 h3
  go_wp2_with fail
  have hc := gload_any 3 (K : Int) w8 H.out (by first | decide | simp)
  rw [(au8 x y hx hy K hK)] at hc
  refine hc.mono ?_
  clear hc
  rintro e w9 ⟨J, nJ, rfl, h1, h2, h3⟩
  have TJ := Lib.hid (Tol.of h1 H.out.old2)
  replace rX := h3.keep rX nX
  replace rY := h3.keep rY nY
  replace H := Lib.hid h2
  clear h1 h2 h3
  go_wp2_with fail
  have hc := gstore_any 3 (K : Int) 77 w9 H.out (by first | decide | simp)
  rw [(au9 x y hx hy K hK)] at hc
  refine hc.mono ?_
  clear hc
  rintro e w10 ⟨L, nL, rfl, h1, h2, h3⟩
  have TL := Lib.hid (Tol.of h1 H.out.old2)
  replace rX := h3.keep rX nX
  replace rY := h3.keep rY nY
  replace H := Lib.hid h2
  clear h1 h2 h3
  go_wp2_with fail
  refine (gowns_at 3 true (au10 x y hx hy K hK) w10 H.out).mono ?_
  rintro e w11 ⟨rfl, c2⟩
  replace H := Lib.hid (H.out.keep c2)
  clear c2
  go_wp2_with fail
  refine (awakes w11 ⟨HT.out.1.keep H.out.1.1 (by simp), HT.out.2.keep H.out.1.1 (by simp)⟩).mono ?_
  rintro e w99 ⟨rfl, c99⟩
  go_wp2_with fail
  go_ret
  exact ⟨rfl, C0.trans (H.out.1.1.trans c99)⟩
end Go.Proofs.YtakjbgnnajdloaaDoor
