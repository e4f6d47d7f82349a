/- Agt: AgentTells walked. No condition. -/
import Derived.Test.YtakjbgnnajdloaaDoorAgf
import Derived.Test.YtakjbgnnajdloaaDoorAgm
import Derived.Test.YtakjbgnnajdloaaDoorArrw
import Derived.Test.YtakjbgnnajdloaaDoorMsgr
import Derived.BigQuiet
import Derived.Deep.RegionWith
import Derived.Deep.RegionHeld3
import Derived.Deep.QuietTactic
import Derived.Deep.Cut
import Derived.Deep.CutBlock
import Derived.Deep.CutRange
import Derived.Deep.DeepCutAuto
namespace Go.Proofs.YtakjbgnnajdloaaDoor
open Go.RowKit
set_option linter.unusedVariables false
set_option maxHeartbeats 1000000
attribute [local go_sem ↓] append_appS copy_copS clear_clrS make_mkS cell_row frozen_row loadLine storeLine loadSlot storeSlot heap_drew heap_drewN heap_alloc heap_past heap_setCell heap_putRow vs_get slc_st slc_li slc_us slice_slS loadMsg storeMsg loadHas storeHas msc_kd msc_li msc_di msc_ke
attribute [local go_sem] rowCell_some rowFrozen_some rowHas_some rowIn_some rowPart_full rowPart_lit rowPut_full rowPut_lit rowSet_some size_putRow vs_size vs_one wideLine wideSlot run_loadS run_storeS run_appS run_copS run_clrS run_mkS loadW_at storeW_at fit_all fit_le one_int one_bool one_pointer one_slice allOne_list putRow_new ne_size1 ne_size2 ne_size3 ne_size4 zero8_length line_eq lit8 slc_size slc_one slc_part slc_in fold_slt fold_slc slc_set_us wideMsg wideHas run_slS msc_size msc_one msc_part msc_in fold_msc msc_putDi msc_putKe msc_putX msc_has ms4_lit ms4_k ms4_l ms4_e
attribute [local simp ↓] heap_drew heap_drewN heap_alloc heap_past heap_setCell heap_putRow
attribute [local simp] rowCell_some rowFrozen_some rowHas_some rowIn_some rowPart_full rowPart_lit rowPut_full rowPut_lit rowSet_some size_putRow vs_size fit_all putRow_new ne_size1 ne_size2 ne_size3 ne_size4 zero8_length slc_size msc_size msc_putDi msc_putKe msc_putX msc_has fit_le ms4_k ms4_l ms4_e


theorem calls_aftG {P : Program} {f : FuncId} {args : Array Value} {N : Nat} {W : World} {x : Aft N W} {v : Value} (hN : N ≤ W.heap.size)
    (h : Calls P f args x.w fun e w' => e = .returned v ∧ Chg [] x.w w') : Calls P f args x.w fun e w'' => e = .returned v ∧ ∃ y : Aft N W, w'' = y.w :=
  calls_aft hN (h.mono fun _ _ ⟨he, hc⟩ => ⟨he, hc.below (Nat.le_refl _) (by simp)⟩)
theorem aslots_none (a b S W : Nat) (xs : List Slt) (u : Int) (w : World) (h : Arr w a b S W xs u) (h0 : ∀ x ∈ xs, x.st = 0) :
    Calls Tryd.prog 59 #[.pointer (some ⟨a, 0, none⟩)] w fun e w' => e = .returned (.slice none 0 0) ∧ Chg [] w w' := by
  have ha := h.1
  have HB := Lib.hid h.2.1
  have H0 := Lib.hid h0
  have h64 := h.2.2.2.len64
  obtain ⟨n, hn⟩ : ∃ n, xs.length = n := ⟨_, rfl⟩
  have HN := Lib.hid hn
  rw [hn] at ha h64
  have g2 : (n : Int) ≤ 64 := by omega
  clear h hn h0
  go_enter Tryd.func59, Tryd.ntmps59
  try dsimp only [List.append]
  go_wp2_with fail
  go_loopw [13, 3] (fun i s3 wr => ∃ (k : Nat), k ≤ n ∧ i = .int .i64 k ∧ s3 = .slice none 0 0 ∧ Chg [] w wr) (fun i _ _ => n - (intOf i).toNat)
  case atStart => exact ⟨0, by omega, rfl, rfl, Chg.refl _ _⟩
  case round =>
    obtain ⟨k, hk, rfl, rfl, hc⟩ := hrel
    have HC := Lib.hid hc
    clear hc
    by_cases hlt : k < n
    · obtain ⟨y, hy⟩ : ∃ y, xs[k]? = some y := ⟨xs[k]'(by rw [HN.out]; exact hlt), List.getElem?_eq_getElem _⟩
      have hb := HC.out.keep HB.out (by simp)
      have ob := old hb
      have r1 := slt_row hy [] 65 (0, 0)
      have r2 := slt_rowIn hy [] 65 (0, 0)
      have g1 : (k : Int) < (n : Int) := by omega
      have g0 : (0 : Int) ≤ (k : Int) := by omega
      have hs := H0.out y (List.mem_of_getElem? hy)
      have t1 : (y.st != 0) = false := by simp [hs]
      clear hy hs
      go_wp2_with fail
      go_roundw
      case rel => exact ⟨k + 1, by omega, by go_num, rfl, HC.out.alloc _⟩
      case measure => simp [intOf]; omega
    · obtain rfl : k = n := by omega
      go_wp2_with fail
      go_ret
      exact ⟨rfl, HC.out⟩
theorem gslots_none {W : World} {g a b S N : Nat} {s : Sta} (h0 : ∀ x ∈ s.1, x.st = 0) (w : World) (h : Agt W w g a b S N s) : Calls Tryd.prog 25 #[.pointer (some ⟨g, 0, none⟩)] w fun e w' => e = .returned (.slice none 0 0) ∧ Chg [] w w' := by
  have H := Lib.hid h
  have rG := h.2.1
  clear h
  go_enter Tryd.func25, Tryd.ntmps25
  try dsimp only [List.append]
  go_wp2_with fail
  refine (aslots_none a b S N s.1 s.2 w H.out.arr h0).mono ?_
  rintro e w2 ⟨rfl, c2⟩
  go_wp2_with fail
  go_ret
  exact ⟨rfl, c2⟩
theorem c64 {K : Nat} (h : K < 64) : K = 0 ∨ K = 1 ∨ K = 2 ∨ K = 3 ∨ K = 4 ∨ K = 5 ∨ K = 6 ∨ K = 7 ∨ K = 8 ∨ K = 9 ∨ K = 10 ∨ K = 11 ∨ K = 12 ∨ K = 13 ∨ K = 14 ∨ K = 15 ∨ K = 16 ∨ K = 17 ∨ K = 18 ∨ K = 19 ∨ K = 20 ∨ K = 21 ∨ K = 22 ∨ K = 23 ∨ K = 24 ∨ K = 25 ∨ K = 26 ∨ K = 27 ∨ K = 28 ∨ K = 29 ∨ K = 30 ∨ K = 31 ∨ K = 32 ∨ K = 33 ∨ K = 34 ∨ K = 35 ∨ K = 36 ∨ K = 37 ∨ K = 38 ∨ K = 39 ∨ K = 40 ∨ K = 41 ∨ K = 42 ∨ K = 43 ∨ K = 44 ∨ K = 45 ∨ K = 46 ∨ K = 47 ∨ K = 48 ∨ K = 49 ∨ K = 50 ∨ K = 51 ∨ K = 52 ∨ K = 53 ∨ K = 54 ∨ K = 55 ∨ K = 56 ∨ K = 57 ∨ K = 58 ∨ K = 59 ∨ K = 60 ∨ K = 61 ∨ K = 62 ∨ K = 63 := by omega
/-- One line alone, in two sets of two ways. -/
def xT (K : Nat) (st : Int) (l : List Int) (h : l.length = 8) (us : Int) : List Slt := if K % 2 = 0 then [⟨st, K, l, us, h⟩, sltZ, sltZ, sltZ] else [sltZ, sltZ, ⟨st, K, l, us, h⟩, sltZ]
set_option maxRecDepth 100000 in
theorem at1 (K J : Nat) (hK : K < 64) (hJ : J < 8) (v : Int) : storeF 2 2 ((List.replicate (2 * 2) sltZ, 0) : Sta) K J v = (((xT K 5 zl8 rfl 1, 1) : Sta), (false, [(ms4 2 K false false)])) := by
  unfold storeF
  rw [if_pos (by simp [isLn, isWd]; omega)]
  rcases c64 hK with rfl | rfl | rfl | rfl | rfl | rfl | rfl | rfl | rfl | rfl | rfl | rfl | rfl | rfl | rfl | rfl | rfl | rfl | rfl | rfl | rfl | rfl | rfl | rfl | rfl | rfl | rfl | rfl | rfl | rfl | rfl | rfl | rfl | rfl | rfl | rfl | rfl | rfl | rfl | rfl | rfl | rfl | rfl | rfl | rfl | rfl | rfl | rfl | rfl | rfl | rfl | rfl | rfl | rfl | rfl | rfl | rfl | rfl | rfl | rfl | rfl | rfl | rfl | rfl
  all_goals rfl
set_option maxRecDepth 100000 in
theorem at2 (K J : Nat) (hK : K < 64) (hJ : J < 8) (v : Int) : hearF 2 2 ((xT K 5 zl8 rfl 1, 1) : Sta) (ms4 10 K false false) = (((xT K 2 zl8 rfl 2, 2) : Sta), ([], 0)) := by
  rcases c64 hK with rfl | rfl | rfl | rfl | rfl | rfl | rfl | rfl | rfl | rfl | rfl | rfl | rfl | rfl | rfl | rfl | rfl | rfl | rfl | rfl | rfl | rfl | rfl | rfl | rfl | rfl | rfl | rfl | rfl | rfl | rfl | rfl | rfl | rfl | rfl | rfl | rfl | rfl | rfl | rfl | rfl | rfl | rfl | rfl | rfl | rfl | rfl | rfl | rfl | rfl | rfl | rfl | rfl | rfl | rfl | rfl | rfl | rfl | rfl | rfl | rfl | rfl | rfl | rfl
  all_goals rfl
set_option maxRecDepth 100000 in
theorem at3 (K J : Nat) (hK : K < 64) (hJ : J < 8) (v : Int) : storeF 2 2 ((xT K 2 zl8 rfl 2, 2) : Sta) K J v = (((xT K 3 (zl8.set J v) (by rw [List.length_set]; rfl) 3, 3) : Sta), (true, [])) := by
  unfold storeF
  rw [if_pos (by simp [isLn, isWd]; omega)]
  rcases c64 hK with rfl | rfl | rfl | rfl | rfl | rfl | rfl | rfl | rfl | rfl | rfl | rfl | rfl | rfl | rfl | rfl | rfl | rfl | rfl | rfl | rfl | rfl | rfl | rfl | rfl | rfl | rfl | rfl | rfl | rfl | rfl | rfl | rfl | rfl | rfl | rfl | rfl | rfl | rfl | rfl | rfl | rfl | rfl | rfl | rfl | rfl | rfl | rfl | rfl | rfl | rfl | rfl | rfl | rfl | rfl | rfl | rfl | rfl | rfl | rfl | rfl | rfl | rfl | rfl
  all_goals rfl
set_option maxRecDepth 100000 in
theorem at4 (K J : Nat) (hK : K < 64) (hJ : J < 8) (v : Int) : hearF 2 2 ((xT K 3 (zl8.set J v) (by rw [List.length_set]; rfl) 3, 3) : Sta) (ms4 12 K false false) = (((List.replicate (2 * 2) sltZ, 3) : Sta), ([⟨6, K, true, false, (zl8.set J v), (by rw [List.length_set]; rfl)⟩], 0)) := by
  rcases c64 hK with rfl | rfl | rfl | rfl | rfl | rfl | rfl | rfl | rfl | rfl | rfl | rfl | rfl | rfl | rfl | rfl | rfl | rfl | rfl | rfl | rfl | rfl | rfl | rfl | rfl | rfl | rfl | rfl | rfl | rfl | rfl | rfl | rfl | rfl | rfl | rfl | rfl | rfl | rfl | rfl | rfl | rfl | rfl | rfl | rfl | rfl | rfl | rfl | rfl | rfl | rfl | rfl | rfl | rfl | rfl | rfl | rfl | rfl | rfl | rfl | rfl | rfl | rfl | rfl
  all_goals rfl
set_option maxRecDepth 100000 in
theorem at5 (K J : Nat) (hK : K < 64) (hJ : J < 8) (v : Int) : hearF 2 2 ((xT K 3 (zl8.set J v) (by rw [List.length_set]; rfl) 3, 3) : Sta) (ms4 13 K false false) = (((xT K 1 (zl8.set J v) (by rw [List.length_set]; rfl) 4, 4) : Sta), ([⟨7, K, true, true, (zl8.set J v), (by rw [List.length_set]; rfl)⟩], 0)) := by
  rcases c64 hK with rfl | rfl | rfl | rfl | rfl | rfl | rfl | rfl | rfl | rfl | rfl | rfl | rfl | rfl | rfl | rfl | rfl | rfl | rfl | rfl | rfl | rfl | rfl | rfl | rfl | rfl | rfl | rfl | rfl | rfl | rfl | rfl | rfl | rfl | rfl | rfl | rfl | rfl | rfl | rfl | rfl | rfl | rfl | rfl | rfl | rfl | rfl | rfl | rfl | rfl | rfl | rfl | rfl | rfl | rfl | rfl | rfl | rfl | rfl | rfl | rfl | rfl | rfl | rfl
  all_goals rfl
set_option maxRecDepth 100000 in
theorem at6 (K J : Nat) (hK : K < 64) (hJ : J < 8) (v : Int) : hearF 2 2 ((xT K 1 (zl8.set J v) (by rw [List.length_set]; rfl) 4, 4) : Sta) (ms4 12 K false false) = (((List.replicate (2 * 2) sltZ, 4) : Sta), ([(ms4 6 K false false)], 0)) := by
  rcases c64 hK with rfl | rfl | rfl | rfl | rfl | rfl | rfl | rfl | rfl | rfl | rfl | rfl | rfl | rfl | rfl | rfl | rfl | rfl | rfl | rfl | rfl | rfl | rfl | rfl | rfl | rfl | rfl | rfl | rfl | rfl | rfl | rfl | rfl | rfl | rfl | rfl | rfl | rfl | rfl | rfl | rfl | rfl | rfl | rfl | rfl | rfl | rfl | rfl | rfl | rfl | rfl | rfl | rfl | rfl | rfl | rfl | rfl | rfl | rfl | rfl | rfl | rfl | rfl | rfl
  all_goals rfl
set_option maxRecDepth 100000 in
theorem at7 (K J : Nat) (hK : K < 64) (hJ : J < 8) (v : Int) : evictF 2 2 ((xT K 3 (zl8.set J v) (by rw [List.length_set]; rfl) 3, 3) : Sta) K = (((xT K 9 (zl8.set J v) (by rw [List.length_set]; rfl) 4, 4) : Sta), ([⟨3, K, true, false, (zl8.set J v), (by rw [List.length_set]; rfl)⟩], 0)) := by
  rcases c64 hK with rfl | rfl | rfl | rfl | rfl | rfl | rfl | rfl | rfl | rfl | rfl | rfl | rfl | rfl | rfl | rfl | rfl | rfl | rfl | rfl | rfl | rfl | rfl | rfl | rfl | rfl | rfl | rfl | rfl | rfl | rfl | rfl | rfl | rfl | rfl | rfl | rfl | rfl | rfl | rfl | rfl | rfl | rfl | rfl | rfl | rfl | rfl | rfl | rfl | rfl | rfl | rfl | rfl | rfl | rfl | rfl | rfl | rfl | rfl | rfl | rfl | rfl | rfl | rfl
  all_goals rfl
set_option maxRecDepth 100000 in
theorem at8 (K J : Nat) (hK : K < 64) (hJ : J < 8) (v : Int) : hearF 2 2 ((xT K 9 (zl8.set J v) (by rw [List.length_set]; rfl) 4, 4) : Sta) (ms4 11 K false false) = (((List.replicate (2 * 2) sltZ, 4) : Sta), ([], 0)) := by
  rcases c64 hK with rfl | rfl | rfl | rfl | rfl | rfl | rfl | rfl | rfl | rfl | rfl | rfl | rfl | rfl | rfl | rfl | rfl | rfl | rfl | rfl | rfl | rfl | rfl | rfl | rfl | rfl | rfl | rfl | rfl | rfl | rfl | rfl | rfl | rfl | rfl | rfl | rfl | rfl | rfl | rfl | rfl | rfl | rfl | rfl | rfl | rfl | rfl | rfl | rfl | rfl | rfl | rfl | rfl | rfl | rfl | rfl | rfl | rfl | rfl | rfl | rfl | rfl | rfl | rfl
  all_goals rfl
set_option maxRecDepth 100000 in
theorem at9 (K J : Nat) (hK : K < 64) (hJ : J < 8) (v : Int) : hearF 2 2 ((xT K 9 (zl8.set J v) (by rw [List.length_set]; rfl) 4, 4) : Sta) (ms4 13 K false false) = (((xT K 8 zl8 rfl 5, 5) : Sta), ([⟨7, K, true, false, (zl8.set J v), (by rw [List.length_set]; rfl)⟩], 0)) := by
  rcases c64 hK with rfl | rfl | rfl | rfl | rfl | rfl | rfl | rfl | rfl | rfl | rfl | rfl | rfl | rfl | rfl | rfl | rfl | rfl | rfl | rfl | rfl | rfl | rfl | rfl | rfl | rfl | rfl | rfl | rfl | rfl | rfl | rfl | rfl | rfl | rfl | rfl | rfl | rfl | rfl | rfl | rfl | rfl | rfl | rfl | rfl | rfl | rfl | rfl | rfl | rfl | rfl | rfl | rfl | rfl | rfl | rfl | rfl | rfl | rfl | rfl | rfl | rfl | rfl | rfl
  all_goals rfl
set_option maxRecDepth 100000 in
theorem at10 (K J : Nat) (hK : K < 64) (hJ : J < 8) (v : Int) : hearF 2 2 ((xT K 8 zl8 rfl 5, 5) : Sta) (ms4 12 K false false) = (((xT K 8 zl8 rfl 5, 5) : Sta), ([], 16)) := by
  rcases c64 hK with rfl | rfl | rfl | rfl | rfl | rfl | rfl | rfl | rfl | rfl | rfl | rfl | rfl | rfl | rfl | rfl | rfl | rfl | rfl | rfl | rfl | rfl | rfl | rfl | rfl | rfl | rfl | rfl | rfl | rfl | rfl | rfl | rfl | rfl | rfl | rfl | rfl | rfl | rfl | rfl | rfl | rfl | rfl | rfl | rfl | rfl | rfl | rfl | rfl | rfl | rfl | rfl | rfl | rfl | rfl | rfl | rfl | rfl | rfl | rfl | rfl | rfl | rfl | rfl
  all_goals rfl
set_option maxRecDepth 100000 in
theorem at11 (K J : Nat) (hK : K < 64) (hJ : J < 8) (v : Int) : hearF 2 2 ((xT K 8 zl8 rfl 5, 5) : Sta) (ms4 11 K false false) = (((List.replicate (2 * 2) sltZ, 5) : Sta), ([], 0)) := by
  rcases c64 hK with rfl | rfl | rfl | rfl | rfl | rfl | rfl | rfl | rfl | rfl | rfl | rfl | rfl | rfl | rfl | rfl | rfl | rfl | rfl | rfl | rfl | rfl | rfl | rfl | rfl | rfl | rfl | rfl | rfl | rfl | rfl | rfl | rfl | rfl | rfl | rfl | rfl | rfl | rfl | rfl | rfl | rfl | rfl | rfl | rfl | rfl | rfl | rfl | rfl | rfl | rfl | rfl | rfl | rfl | rfl | rfl | rfl | rfl | rfl | rfl | rfl | rfl | rfl | rfl
  all_goals rfl
set_option maxRecDepth 100000 in
theorem atells_0 (li n v : Int) (l0 : 0 ≤ li) (l1 : li ≤ 255) (n0 : 0 ≤ n) (n1 : n ≤ 255) (hc : n / 8 % 4 = 0) (W : World) (hT : Tabs W) : Calls Tryd.prog 5 #[.int .u8 li, .int .u8 n, .int .u64 v] W fun e w' => e = .returned (.bool true) ∧ Chg [] W w' := by
  have HT := Lib.hid hT
  clear hT
  obtain ⟨K, hK, hlK⟩ : ∃ K : Nat, K < 64 ∧ li % 64 = K := ⟨(li % 64).toNat, by omega, by omega⟩
  obtain ⟨J, hJ, hnJ⟩ : ∃ J : Nat, J < 8 ∧ n % 8 = J := ⟨(n % 8).toNat, by omega, by omega⟩
  have k1 : (J : Int) < 8 := by omega
  have k0 : (0 : Int) ≤ (J : Int) := by omega
  have hl8 : (zl8.set J v).length = 8 := (by rw [List.length_set]; rfl)
  have hle := fun W => line_eq (zl8.set J v) (zl8.set J v) hl8 hl8 W
  have hll : ((zl8.set J v) == (zl8.set J v)) = true := by simp
  go_enter Tryd.func5, Tryd.ntmps5
  try dsimp only [List.append]
  go_wp2_with fail
  refine (gnew_ok 2 2 W W (Chg.refl _ _) (by decide)).mono ?_
  rintro e w1 ⟨g, a, b, rfl, h0, _⟩
  have H := Lib.hid h0
  clear h0
  go_wp2_with fail
  have hc := gstore_any (K : Int) (J : Int) v w1 H.out (by first | decide | simp)
  rw [(at1 K J hK hJ v)] at hc
  refine hc.mono ?_
  clear hc
  rintro e w2 ⟨A, nA, rfl, h1, h2, h3⟩
  have TA := Lib.hid (Tol.of h1 H.out.old2)
  replace H := Lib.hid h2
  clear h1 h2 h3
  go_wp2_with fail
  have hc := ghear_any (ms4 10 K false false) w2 H.out (by first | decide | simp) HT.out
  rw [(at2 K J hK hJ v)] at hc
  refine hc.mono ?_
  clear hc
  rintro e w3 ⟨B, nB, rfl, h1, h2, h3⟩
  have TB := Lib.hid (Tol.of h1 H.out.old2)
  replace H := Lib.hid h2
  clear h1 h2 h3
  go_wp2_with fail
  have hc := gstore_any (K : Int) (J : Int) v w3 H.out (by first | decide | simp)
  rw [(at3 K J hK hJ v)] at hc
  refine hc.mono ?_
  clear hc
  rintro e w4 ⟨C, nC, rfl, h1, h2, h3⟩
  have TC := Lib.hid (Tol.of h1 H.out.old2)
  replace H := Lib.hid h2
  clear h1 h2 h3
  go_wp2_with fail
  rw [vs_set, show ([0, 0, 0, 0, 0, 0, 0, 0] : List Int) = zl8 from rfl]
  have cb := (Chg.refl [] w4).alloc (.cells (vs (zl8.set J v)) 33)
  have rP : (w4.alloc (.cells (vs (zl8.set J v)) 33)).heap[w4.heap.size]? = some (.cells (vs (zl8.set J v)) 33 (0, 0)) := by simp
  have nP := H.out.new2 (k := w4.heap.size) (Nat.le_refl _)
  replace H := Lib.hid (H.out.keep cb)
  clear cb
  generalize w4.heap.size = pP at rP nP ⊢
  generalize w4.alloc (.cells (vs (zl8.set J v)) 33) = w5 at rP H ⊢
  have hc := ghear_any (ms4 12 K false false) w5 H.out (by first | decide | simp) HT.out
  rw [(at4 K J hK hJ v)] at hc
  refine hc.mono ?_
  clear hc
  rintro e w6 ⟨D, nD, rfl, h1, h2, h3⟩
  have TD := Lib.hid (Tol.of h1 H.out.old2)
  replace rP := h3.keep rP nP
  replace H := Lib.hid h2
  clear h1 h2 h3
  obtain ⟨bD, oD, csD, tD, fD, rfl, rwD, rD0, rD1, rD2, rD3, rD4, rD5, rD6⟩ := TD.out.msg (i := 0) rfl
  simp only [Nat.zero_mul, Nat.add_zero] at rD0 rD1 rD2 rD3 rD4 rD5 rD6
  clear rD4
  go_wp2_with fail
  have hP : ∀ y : Aft w6.heap.size w6, y.w.heap[pP]? = some (.cells (vs (zl8.set J v)) 33 (0, 0)) := fun y => (y.block (old rP).lt).trans rP
  have hwD : ∀ y : Aft w6.heap.size w6, y.w.heap[bD]? = some (.cells csD tD fD) := fun y => (y.block (old rwD).lt).trans rwD
  have HA := Lib.hid (show ∀ y : Aft w6.heap.size w6, Agt W y.w g a b 2 2 _ from fun y => H.out.keep (Below.chg y.below (Nat.le_refl _)))
  have HTA := Lib.hid (show ∀ y : Aft w6.heap.size w6, Tabs y.w from fun y => ⟨HT.out.1.keep (H.out.1.1.trans (Below.chg y.below (Nat.le_refl _))) (by simp), HT.out.2.keep (H.out.1.1.trans (Below.chg y.below (Nat.le_refl _))) (by simp)⟩)
  refine wp_region_aft w6.heap.size (by kernel_rfl) (by kernel_rfl) ?_
  repeat (go_big_quiet_step (first
    | (go_at_call 25; exact calls_aftG (Nat.le_refl _) (gslots_none (by decide) _ (HA.out _)))
    | (go_at_call 27; exact calls_aftG (Nat.le_refl _) (gidle_at true (by rfl) _ (HA.out _)))
    | (go_at_call 10; exact calls_aftG (Nat.le_refl _) (awakes _ (HTA.out _)))))
  refine wpQuiet_nil ?_
  rintro _ ⟨y, rfl⟩
  go_wp2_with fail
  go_ret
  exact ⟨by simp, H.out.1.1.trans (Below.chg y.below (Nat.le_refl _))⟩
set_option maxRecDepth 100000 in
theorem atells_1 (li n v : Int) (l0 : 0 ≤ li) (l1 : li ≤ 255) (n0 : 0 ≤ n) (n1 : n ≤ 255) (hc : n / 8 % 4 = 1) (W : World) (hT : Tabs W) : Calls Tryd.prog 5 #[.int .u8 li, .int .u8 n, .int .u64 v] W fun e w' => e = .returned (.bool true) ∧ Chg [] W w' := by
  have HT := Lib.hid hT
  clear hT
  obtain ⟨K, hK, hlK⟩ : ∃ K : Nat, K < 64 ∧ li % 64 = K := ⟨(li % 64).toNat, by omega, by omega⟩
  obtain ⟨J, hJ, hnJ⟩ : ∃ J : Nat, J < 8 ∧ n % 8 = J := ⟨(n % 8).toNat, by omega, by omega⟩
  have k1 : (J : Int) < 8 := by omega
  have k0 : (0 : Int) ≤ (J : Int) := by omega
  have hl8 : (zl8.set J v).length = 8 := (by rw [List.length_set]; rfl)
  have hle := fun W => line_eq (zl8.set J v) (zl8.set J v) hl8 hl8 W
  have hll : ((zl8.set J v) == (zl8.set J v)) = true := by simp
  go_enter Tryd.func5, Tryd.ntmps5
  try dsimp only [List.append]
  go_wp2_with fail
  refine (gnew_ok 2 2 W W (Chg.refl _ _) (by decide)).mono ?_
  rintro e w1 ⟨g, a, b, rfl, h0, _⟩
  have H := Lib.hid h0
  clear h0
  go_wp2_with fail
  have hc := gstore_any (K : Int) (J : Int) v w1 H.out (by first | decide | simp)
  rw [(at1 K J hK hJ v)] at hc
  refine hc.mono ?_
  clear hc
  rintro e w2 ⟨A, nA, rfl, h1, h2, h3⟩
  have TA := Lib.hid (Tol.of h1 H.out.old2)
  replace H := Lib.hid h2
  clear h1 h2 h3
  go_wp2_with fail
  have hc := ghear_any (ms4 10 K false false) w2 H.out (by first | decide | simp) HT.out
  rw [(at2 K J hK hJ v)] at hc
  refine hc.mono ?_
  clear hc
  rintro e w3 ⟨B, nB, rfl, h1, h2, h3⟩
  have TB := Lib.hid (Tol.of h1 H.out.old2)
  replace H := Lib.hid h2
  clear h1 h2 h3
  go_wp2_with fail
  have hc := gstore_any (K : Int) (J : Int) v w3 H.out (by first | decide | simp)
  rw [(at3 K J hK hJ v)] at hc
  refine hc.mono ?_
  clear hc
  rintro e w4 ⟨C, nC, rfl, h1, h2, h3⟩
  have TC := Lib.hid (Tol.of h1 H.out.old2)
  replace H := Lib.hid h2
  clear h1 h2 h3
  go_wp2_with fail
  rw [vs_set, show ([0, 0, 0, 0, 0, 0, 0, 0] : List Int) = zl8 from rfl]
  have cb := (Chg.refl [] w4).alloc (.cells (vs (zl8.set J v)) 33)
  have rP : (w4.alloc (.cells (vs (zl8.set J v)) 33)).heap[w4.heap.size]? = some (.cells (vs (zl8.set J v)) 33 (0, 0)) := by simp
  have nP := H.out.new2 (k := w4.heap.size) (Nat.le_refl _)
  replace H := Lib.hid (H.out.keep cb)
  clear cb
  generalize w4.heap.size = pP at rP nP ⊢
  generalize w4.alloc (.cells (vs (zl8.set J v)) 33) = w5 at rP H ⊢
  have hc := ghear_any (ms4 13 K false false) w5 H.out (by first | decide | simp) HT.out
  rw [(at5 K J hK hJ v)] at hc
  refine hc.mono ?_
  clear hc
  rintro e w6 ⟨D, nD, rfl, h1, h2, h3⟩
  have TD := Lib.hid (Tol.of h1 H.out.old2)
  replace rP := h3.keep rP nP
  replace H := Lib.hid h2
  clear h1 h2 h3
  go_wp2_with fail
  have hc := ghear_any (ms4 12 K false false) w6 H.out (by first | decide | simp) HT.out
  rw [(at6 K J hK hJ v)] at hc
  refine hc.mono ?_
  clear hc
  rintro e w7 ⟨E, nE, rfl, h1, h2, h3⟩
  have TE := Lib.hid (Tol.of h1 H.out.old2)
  replace TD := Lib.hid (TD.out.keep h3)
  replace rP := h3.keep rP nP
  replace H := Lib.hid h2
  clear h1 h2 h3
  obtain ⟨bD, oD, csD, tD, fD, rfl, rwD, rD0, rD1, rD2, rD3, rD4, rD5, rD6⟩ := TD.out.msg (i := 0) rfl
  simp only [Nat.zero_mul, Nat.add_zero] at rD0 rD1 rD2 rD3 rD4 rD5 rD6
  clear rD4
  obtain ⟨bE, oE, csE, tE, fE, rfl, rwE, rE0, rE1, rE2, rE3, rE4, rE5, rE6⟩ := TE.out.msg (i := 0) rfl
  simp only [Nat.zero_mul, Nat.add_zero] at rE0 rE1 rE2 rE3 rE4 rE5 rE6
  clear rE4
  dsimp only [ms4] at rE0 rE1 rE2 rE3
  go_wp2_with fail
  have hP : ∀ y : Aft w7.heap.size w7, y.w.heap[pP]? = some (.cells (vs (zl8.set J v)) 33 (0, 0)) := fun y => (y.block (old rP).lt).trans rP
  have hwD : ∀ y : Aft w7.heap.size w7, y.w.heap[bD]? = some (.cells csD tD fD) := fun y => (y.block (old rwD).lt).trans rwD
  have hwE : ∀ y : Aft w7.heap.size w7, y.w.heap[bE]? = some (.cells csE tE fE) := fun y => (y.block (old rwE).lt).trans rwE
  have HA := Lib.hid (show ∀ y : Aft w7.heap.size w7, Agt W y.w g a b 2 2 _ from fun y => H.out.keep (Below.chg y.below (Nat.le_refl _)))
  have HTA := Lib.hid (show ∀ y : Aft w7.heap.size w7, Tabs y.w from fun y => ⟨HT.out.1.keep (H.out.1.1.trans (Below.chg y.below (Nat.le_refl _))) (by simp), HT.out.2.keep (H.out.1.1.trans (Below.chg y.below (Nat.le_refl _))) (by simp)⟩)
  refine wp_region_aft w7.heap.size (by kernel_rfl) (by kernel_rfl) ?_
  repeat (go_big_quiet_step (first
    | (go_at_call 25; exact calls_aftG (Nat.le_refl _) (gslots_none (by decide) _ (HA.out _)))
    | (go_at_call 27; exact calls_aftG (Nat.le_refl _) (gidle_at true (by rfl) _ (HA.out _)))
    | (go_at_call 10; exact calls_aftG (Nat.le_refl _) (awakes _ (HTA.out _)))))
  refine wpQuiet_nil ?_
  rintro _ ⟨y, rfl⟩
  go_wp2_with fail
  go_ret
  exact ⟨by simp, H.out.1.1.trans (Below.chg y.below (Nat.le_refl _))⟩
set_option maxRecDepth 100000 in
theorem atells_2 (li n v : Int) (l0 : 0 ≤ li) (l1 : li ≤ 255) (n0 : 0 ≤ n) (n1 : n ≤ 255) (hc : n / 8 % 4 = 2) (W : World) (hT : Tabs W) : Calls Tryd.prog 5 #[.int .u8 li, .int .u8 n, .int .u64 v] W fun e w' => e = .returned (.bool true) ∧ Chg [] W w' := by
  have HT := Lib.hid hT
  clear hT
  obtain ⟨K, hK, hlK⟩ : ∃ K : Nat, K < 64 ∧ li % 64 = K := ⟨(li % 64).toNat, by omega, by omega⟩
  obtain ⟨J, hJ, hnJ⟩ : ∃ J : Nat, J < 8 ∧ n % 8 = J := ⟨(n % 8).toNat, by omega, by omega⟩
  have k1 : (J : Int) < 8 := by omega
  have k0 : (0 : Int) ≤ (J : Int) := by omega
  have hl8 : (zl8.set J v).length = 8 := (by rw [List.length_set]; rfl)
  have hle := fun W => line_eq (zl8.set J v) (zl8.set J v) hl8 hl8 W
  have hll : ((zl8.set J v) == (zl8.set J v)) = true := by simp
  go_enter Tryd.func5, Tryd.ntmps5
  try dsimp only [List.append]
  go_wp2_with fail
  refine (gnew_ok 2 2 W W (Chg.refl _ _) (by decide)).mono ?_
  rintro e w1 ⟨g, a, b, rfl, h0, _⟩
  have H := Lib.hid h0
  clear h0
  go_wp2_with fail
  have hc := gstore_any (K : Int) (J : Int) v w1 H.out (by first | decide | simp)
  rw [(at1 K J hK hJ v)] at hc
  refine hc.mono ?_
  clear hc
  rintro e w2 ⟨A, nA, rfl, h1, h2, h3⟩
  have TA := Lib.hid (Tol.of h1 H.out.old2)
  replace H := Lib.hid h2
  clear h1 h2 h3
  go_wp2_with fail
  have hc := ghear_any (ms4 10 K false false) w2 H.out (by first | decide | simp) HT.out
  rw [(at2 K J hK hJ v)] at hc
  refine hc.mono ?_
  clear hc
  rintro e w3 ⟨B, nB, rfl, h1, h2, h3⟩
  have TB := Lib.hid (Tol.of h1 H.out.old2)
  replace H := Lib.hid h2
  clear h1 h2 h3
  go_wp2_with fail
  have hc := gstore_any (K : Int) (J : Int) v w3 H.out (by first | decide | simp)
  rw [(at3 K J hK hJ v)] at hc
  refine hc.mono ?_
  clear hc
  rintro e w4 ⟨C, nC, rfl, h1, h2, h3⟩
  have TC := Lib.hid (Tol.of h1 H.out.old2)
  replace H := Lib.hid h2
  clear h1 h2 h3
  go_wp2_with fail
  rw [vs_set, show ([0, 0, 0, 0, 0, 0, 0, 0] : List Int) = zl8 from rfl]
  have cb := (Chg.refl [] w4).alloc (.cells (vs (zl8.set J v)) 33)
  have rP : (w4.alloc (.cells (vs (zl8.set J v)) 33)).heap[w4.heap.size]? = some (.cells (vs (zl8.set J v)) 33 (0, 0)) := by simp
  have nP := H.out.new2 (k := w4.heap.size) (Nat.le_refl _)
  replace H := Lib.hid (H.out.keep cb)
  clear cb
  generalize w4.heap.size = pP at rP nP ⊢
  generalize w4.alloc (.cells (vs (zl8.set J v)) 33) = w5 at rP H ⊢
  have hc := gevict_any (K : Int) w5 H.out (by first | decide | simp)
  rw [(at7 K J hK hJ v)] at hc
  refine hc.mono ?_
  clear hc
  rintro e w6 ⟨D, nD, rfl, h1, h2, h3⟩
  have TD := Lib.hid (Tol.of h1 H.out.old2)
  replace rP := h3.keep rP nP
  replace H := Lib.hid h2
  clear h1 h2 h3
  go_wp2_with fail
  have hc := ghear_any (ms4 11 K false false) w6 H.out (by first | decide | simp) HT.out
  rw [(at8 K J hK hJ v)] at hc
  refine hc.mono ?_
  clear hc
  rintro e w7 ⟨E, nE, rfl, h1, h2, h3⟩
  have TE := Lib.hid (Tol.of h1 H.out.old2)
  replace TD := Lib.hid (TD.out.keep h3)
  replace rP := h3.keep rP nP
  replace H := Lib.hid h2
  clear h1 h2 h3
  obtain ⟨bD, oD, csD, tD, fD, rfl, rwD, rD0, rD1, rD2, rD3, rD4, rD5, rD6⟩ := TD.out.msg (i := 0) rfl
  simp only [Nat.zero_mul, Nat.add_zero] at rD0 rD1 rD2 rD3 rD4 rD5 rD6
  clear rD4
  go_wp2_with fail
  have hP : ∀ y : Aft w7.heap.size w7, y.w.heap[pP]? = some (.cells (vs (zl8.set J v)) 33 (0, 0)) := fun y => (y.block (old rP).lt).trans rP
  have hwD : ∀ y : Aft w7.heap.size w7, y.w.heap[bD]? = some (.cells csD tD fD) := fun y => (y.block (old rwD).lt).trans rwD
  have HA := Lib.hid (show ∀ y : Aft w7.heap.size w7, Agt W y.w g a b 2 2 _ from fun y => H.out.keep (Below.chg y.below (Nat.le_refl _)))
  have HTA := Lib.hid (show ∀ y : Aft w7.heap.size w7, Tabs y.w from fun y => ⟨HT.out.1.keep (H.out.1.1.trans (Below.chg y.below (Nat.le_refl _))) (by simp), HT.out.2.keep (H.out.1.1.trans (Below.chg y.below (Nat.le_refl _))) (by simp)⟩)
  refine wp_region_aft w7.heap.size (by kernel_rfl) (by kernel_rfl) ?_
  repeat (go_big_quiet_step (first
    | (go_at_call 25; exact calls_aftG (Nat.le_refl _) (gslots_none (by decide) _ (HA.out _)))
    | (go_at_call 27; exact calls_aftG (Nat.le_refl _) (gidle_at true (by rfl) _ (HA.out _)))
    | (go_at_call 10; exact calls_aftG (Nat.le_refl _) (awakes _ (HTA.out _)))))
  refine wpQuiet_nil ?_
  rintro _ ⟨y, rfl⟩
  go_wp2_with fail
  go_ret
  exact ⟨by simp, H.out.1.1.trans (Below.chg y.below (Nat.le_refl _))⟩
set_option maxRecDepth 100000 in
theorem atells_3 (li n v : Int) (l0 : 0 ≤ li) (l1 : li ≤ 255) (n0 : 0 ≤ n) (n1 : n ≤ 255) (hc : n / 8 % 4 = 3) (W : World) (hT : Tabs W) : Calls Tryd.prog 5 #[.int .u8 li, .int .u8 n, .int .u64 v] W fun e w' => e = .returned (.bool true) ∧ Chg [] W w' := by
  have HT := Lib.hid hT
  clear hT
  obtain ⟨K, hK, hlK⟩ : ∃ K : Nat, K < 64 ∧ li % 64 = K := ⟨(li % 64).toNat, by omega, by omega⟩
  obtain ⟨J, hJ, hnJ⟩ : ∃ J : Nat, J < 8 ∧ n % 8 = J := ⟨(n % 8).toNat, by omega, by omega⟩
  have k1 : (J : Int) < 8 := by omega
  have k0 : (0 : Int) ≤ (J : Int) := by omega
  have hl8 : (zl8.set J v).length = 8 := (by rw [List.length_set]; rfl)
  have hle := fun W => line_eq (zl8.set J v) (zl8.set J v) hl8 hl8 W
  have hll : ((zl8.set J v) == (zl8.set J v)) = true := by simp
  go_enter Tryd.func5, Tryd.ntmps5
  try dsimp only [List.append]
  go_wp2_with fail
  refine (gnew_ok 2 2 W W (Chg.refl _ _) (by decide)).mono ?_
  rintro e w1 ⟨g, a, b, rfl, h0, _⟩
  have H := Lib.hid h0
  clear h0
  go_wp2_with fail
  have hc := gstore_any (K : Int) (J : Int) v w1 H.out (by first | decide | simp)
  rw [(at1 K J hK hJ v)] at hc
  refine hc.mono ?_
  clear hc
  rintro e w2 ⟨A, nA, rfl, h1, h2, h3⟩
  have TA := Lib.hid (Tol.of h1 H.out.old2)
  replace H := Lib.hid h2
  clear h1 h2 h3
  go_wp2_with fail
  have hc := ghear_any (ms4 10 K false false) w2 H.out (by first | decide | simp) HT.out
  rw [(at2 K J hK hJ v)] at hc
  refine hc.mono ?_
  clear hc
  rintro e w3 ⟨B, nB, rfl, h1, h2, h3⟩
  have TB := Lib.hid (Tol.of h1 H.out.old2)
  replace H := Lib.hid h2
  clear h1 h2 h3
  go_wp2_with fail
  have hc := gstore_any (K : Int) (J : Int) v w3 H.out (by first | decide | simp)
  rw [(at3 K J hK hJ v)] at hc
  refine hc.mono ?_
  clear hc
  rintro e w4 ⟨C, nC, rfl, h1, h2, h3⟩
  have TC := Lib.hid (Tol.of h1 H.out.old2)
  replace H := Lib.hid h2
  clear h1 h2 h3
  go_wp2_with fail
  rw [vs_set, show ([0, 0, 0, 0, 0, 0, 0, 0] : List Int) = zl8 from rfl]
  have cb := (Chg.refl [] w4).alloc (.cells (vs (zl8.set J v)) 33)
  have rP : (w4.alloc (.cells (vs (zl8.set J v)) 33)).heap[w4.heap.size]? = some (.cells (vs (zl8.set J v)) 33 (0, 0)) := by simp
  have nP := H.out.new2 (k := w4.heap.size) (Nat.le_refl _)
  replace H := Lib.hid (H.out.keep cb)
  clear cb
  generalize w4.heap.size = pP at rP nP ⊢
  generalize w4.alloc (.cells (vs (zl8.set J v)) 33) = w5 at rP H ⊢
  have hc := gevict_any (K : Int) w5 H.out (by first | decide | simp)
  rw [(at7 K J hK hJ v)] at hc
  refine hc.mono ?_
  clear hc
  rintro e w6 ⟨D, nD, rfl, h1, h2, h3⟩
  have TD := Lib.hid (Tol.of h1 H.out.old2)
  replace rP := h3.keep rP nP
  replace H := Lib.hid h2
  clear h1 h2 h3
  go_wp2_with fail
  have hc := ghear_any (ms4 13 K false false) w6 H.out (by first | decide | simp) HT.out
  rw [(at9 K J hK hJ v)] at hc
  refine hc.mono ?_
  clear hc
  rintro e w7 ⟨E, nE, rfl, h1, h2, h3⟩
  have TE := Lib.hid (Tol.of h1 H.out.old2)
  replace TD := Lib.hid (TD.out.keep h3)
  replace rP := h3.keep rP nP
  replace H := Lib.hid h2
  clear h1 h2 h3
  go_wp2_with fail
  have hc := ghear_any (ms4 12 K false false) w7 H.out (by first | decide | simp) HT.out
  rw [(at10 K J hK hJ v)] at hc
  refine hc.mono ?_
  clear hc
  rintro e w8 ⟨F, nF, rfl, h1, h2, h3⟩
  have TF := Lib.hid (Tol.of h1 H.out.old2)
  replace TD := Lib.hid (TD.out.keep h3)
  replace TE := Lib.hid (TE.out.keep h3)
  replace rP := h3.keep rP nP
  replace H := Lib.hid h2
  clear h1 h2 h3
  go_wp2_with fail
  have hc := ghear_any (ms4 11 K false false) w8 H.out (by first | decide | simp) HT.out
  rw [(at11 K J hK hJ v)] at hc
  refine hc.mono ?_
  clear hc
  rintro e w9 ⟨I, nI, rfl, h1, h2, h3⟩
  have TI := Lib.hid (Tol.of h1 H.out.old2)
  replace TD := Lib.hid (TD.out.keep h3)
  replace TE := Lib.hid (TE.out.keep h3)
  replace TF := Lib.hid (TF.out.keep h3)
  replace rP := h3.keep rP nP
  replace H := Lib.hid h2
  clear h1 h2 h3
  obtain ⟨bE, oE, csE, tE, fE, rfl, rwE, rE0, rE1, rE2, rE3, rE4, rE5, rE6⟩ := TE.out.msg (i := 0) rfl
  simp only [Nat.zero_mul, Nat.add_zero] at rE0 rE1 rE2 rE3 rE4 rE5 rE6
  clear rE4
  go_wp2_with fail
  have hP : ∀ y : Aft w9.heap.size w9, y.w.heap[pP]? = some (.cells (vs (zl8.set J v)) 33 (0, 0)) := fun y => (y.block (old rP).lt).trans rP
  have hwE : ∀ y : Aft w9.heap.size w9, y.w.heap[bE]? = some (.cells csE tE fE) := fun y => (y.block (old rwE).lt).trans rwE
  have HA := Lib.hid (show ∀ y : Aft w9.heap.size w9, Agt W y.w g a b 2 2 _ from fun y => H.out.keep (Below.chg y.below (Nat.le_refl _)))
  have HTA := Lib.hid (show ∀ y : Aft w9.heap.size w9, Tabs y.w from fun y => ⟨HT.out.1.keep (H.out.1.1.trans (Below.chg y.below (Nat.le_refl _))) (by simp), HT.out.2.keep (H.out.1.1.trans (Below.chg y.below (Nat.le_refl _))) (by simp)⟩)
  refine wp_region_aft w9.heap.size (by kernel_rfl) (by kernel_rfl) ?_
  repeat (go_big_quiet_step (first
    | (go_at_call 25; exact calls_aftG (Nat.le_refl _) (gslots_none (by decide) _ (HA.out _)))
    | (go_at_call 27; exact calls_aftG (Nat.le_refl _) (gidle_at true (by rfl) _ (HA.out _)))
    | (go_at_call 10; exact calls_aftG (Nat.le_refl _) (awakes _ (HTA.out _)))))
  refine wpQuiet_nil ?_
  rintro _ ⟨y, rfl⟩
  go_wp2_with fail
  go_ret
  exact ⟨by simp, H.out.1.1.trans (Below.chg y.below (Nat.le_refl _))⟩
theorem atells_any (li n v : Int) (l0 : 0 ≤ li) (l1 : li ≤ 255) (n0 : 0 ≤ n) (n1 : n ≤ 255) (W : World) (hT : Tabs W) : Calls Tryd.prog 5 #[.int .u8 li, .int .u8 n, .int .u64 v] W fun e w' => e = .returned (.bool true) ∧ Chg [] W w' := by
  have h : n / 8 % 4 = 0 ∨ n / 8 % 4 = 1 ∨ n / 8 % 4 = 2 ∨ n / 8 % 4 = 3 := by omega
  rcases h with h | h | h | h
  · exact atells_0 li n v l0 l1 n0 n1 h W hT
  · exact atells_1 li n v l0 l1 n0 n1 h W hT
  · exact atells_2 li n v l0 l1 n0 n1 h W hT
  · exact atells_3 li n v l0 l1 n0 n1 h W hT
end Go.Proofs.YtakjbgnnajdloaaDoor
