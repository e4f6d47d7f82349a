/- What a statement of layer 13 needs further: by parts. No condition. -/
import Derived.Test.YtcjoinhngdfdmaaGreatDoorCFa
import Derived.Test.YtcjoinhngdfdmaaGreatDoorCFb
import Derived.Test.YtcjoinhngdfdmaaGreatDoorCNaq
import Derived.Below
import Derived.BigQuiet
import Derived.ChangeKeysEq
import Derived.Deep.Cut
import Derived.Deep.CutBlock
import Derived.Deep.CutRange
import Derived.Deep.DeepCutAuto
import Derived.Deep.MidRow
import Derived.Deep.QuietTactic
import Derived.Deep.RegionHeld3
import Derived.Deep.RegionWith
import Derived.DeepKeys
import Derived.Laws.LoneSync
import Derived.Lib.Hide
import Derived.Lib.SliceRun
import Derived.OpenShut
import Derived.ProofKit
import Derived.Test.YtcjoinhngdfdmaaGreatDoorChecked
import Derived.WalkKit
section
namespace Go.Proofs.YtcjoinhngdfdmaaGreatDoor
open Go.RowKit
set_option linter.unusedVariables false
set_option maxHeartbeats 1000000
attribute [local go_sem ↓] append_appS copy_copS clear_clrS make_mkS cell_row frozen_row loadLine storeLine loadSlot storeSlot heap_drew heap_drewN heap_alloc heap_past heap_setCell heap_putRow vs_get slc_st slc_li slc_us slice_slS loadMsg storeMsg loadHas storeHas msc_kd msc_li msc_di msc_ke
attribute [local go_sem] rowCell_some rowFrozen_some rowHas_some rowIn_some rowPart_full rowPart_lit rowPut_full rowPut_lit rowSet_some size_putRow vs_size vs_one wideLine wideSlot run_loadS run_storeS run_appS run_copS run_clrS run_mkS loadW_at storeW_at fit_all fit_le one_int one_bool one_pointer one_slice allOne_list putRow_new ne_size1 ne_size2 ne_size3 ne_size4 zero8_length lines_nil line_eq lit8 slc_size slc_one slc_part slc_in fold_slt fold_slc slc_set_us wideMsg wideHas run_slS msc_size msc_one msc_part msc_in fold_msc msc_putDi msc_putKe msc_putX msc_has ms4_lit ms4_k ms4_l ms4_e
attribute [local simp ↓] heap_drew heap_drewN heap_alloc heap_past heap_setCell heap_putRow
attribute [local simp] rowCell_some rowFrozen_some rowHas_some rowIn_some rowPart_full rowPart_lit rowPut_full rowPut_lit rowSet_some size_putRow vs_size fit_all putRow_new ne_size1 ne_size2 ne_size3 ne_size4 zero8_length slc_size msc_size msc_putDi msc_putKe msc_putX msc_has fit_le ms4_k ms4_l ms4_e


/-! ### The table of what messages make of slots -/
theorem tb_cell (k j : Nat) (hk : k < 15) (hj : j < 10) : tbL.toArray[k * 10 + j]? = some (.int .i64 (tb k j)) := by
  have h : ∀ k : Nat, k < 15 → ∀ j : Nat, j < 10 → tbL[k * 10 + j]? = some (.int .i64 (tb k j)) := by
    intro k hk j hj
    have h1 : k = 0 ∨ k = 1 ∨ k = 2 ∨ k = 3 ∨ k = 4 ∨ k = 5 ∨ k = 6 ∨ k = 7 ∨ k = 8 ∨ k = 9 ∨ k = 10 ∨ k = 11 ∨ k = 12 ∨ k = 13 ∨ k = 14 := by omega
    have h2 : j = 0 ∨ j = 1 ∨ j = 2 ∨ j = 3 ∨ j = 4 ∨ j = 5 ∨ j = 6 ∨ j = 7 ∨ j = 8 ∨ j = 9 := by omega
    rcases h1 with rfl | rfl | rfl | rfl | rfl | rfl | rfl | rfl | rfl | rfl | rfl | rfl | rfl | rfl | rfl <;> rcases h2 with rfl | rfl | rfl | rfl | rfl | rfl | rfl | rfl | rfl | rfl <;> rfl
  rw [List.getElem?_toArray]
  exact h k hk j hj
def Tabs (W : World) : Prop := Tab W ∧ TabB W
theorem gmgood_at (m : Ms) (b : Bool) (h : mg m = b) (w : World) (ht : Tab w) : Calls Tryz.prog 96 #[.agg (msc m)] w fun e w' => e = .returned (.bool b) ∧ Chg [] w w' := h ▸ mgood_any m w ht
theorem gtells_at (k : Int) (b : Bool) (h : tellsB k = b) (w : World) : Calls Tryz.prog 103 #[.int .i64 k] w fun e w' => e = .returned (.bool b) ∧ w = w' := h ▸ tells_any k w
theorem snew_at (w : World) (o : Obj) : (w.alloc o).heap[w.heap.size]? = some o := by simp
theorem sput_row {w : World} {r : Nat} {x y : Slt} {t : TypeId} (h : w.heap[r]? = some (.cells (slc y) t (0, 0))) : (putRow w r 0 (slc x)).heap[r]? = some (.cells (slc x) t (0, 0)) := by
  simp [h, slc_size]
theorem ghear_args {W : World} {g a b S N : Nat} {s : Sta} (m : Ms) (gg : (mg m && tellsB m.kd) = false) (w : World) (h : Agt W w g a b S N s) (hu : s.2 ≤ 1000000000) (hT : Tabs W) : Calls Tryz.prog 60 #[.pointer (some ⟨g, 0, none⟩), .agg (msc m)] w (AgRet W w g a b S N (hearF S N s m).1 (fun v => .tuple #[v, .int .i64 (hearF S N s m).2.2]) (hearF S N s m).2.1) := by
  have H := Lib.hid h
  have rG := h.2.1
  have CW := Lib.hid (Chg.refl [a, b] w)
  clear h
  rw [show hearF S N s m = (s, ([], 1)) by unfold hearF; rw [if_neg (by simp [gg])]]
  cases g3 : mg m
  · skip
    go_enter Tryz.func60, Tryz.ntmps60
    try dsimp only [List.append]
    go_wp2_with fail
    refine agen_calls1 (w := w) (b1 := w.heap.size) (x1 := .cells (msc m) 50 (0, 0)) (by (repeat' (first | with_reducible exact Chg.refl _ _ | with_reducible assumption | with_reducible refine Chg.drew ?_ | with_reducible refine Chg.drewN ?_ _ | with_reducible refine Chg.alloc ?_ _ | with_reducible refine Chg.putRow ?_ _ _ _ (.inr ?_) | with_reducible refine Chg.setCell ?_ _ _ _ (.inr ?_)  | (show _ ≤ _; first | exact Nat.le_refl _ | omega | (simp; done))))) (by simp [*]) fun w1 C1 rM => ?_
    have oM := old rM
    refine (gmgood_at m _ g3 w1 (hT.1.keep (H.out.1.1.trans C1) (by simp))).mono ?_
    rintro e w3 ⟨rfl, c3⟩
    replace rM := c3.keep rM List.not_mem_nil
    have C3 := C1.trans c3
    replace H := Lib.hid (H.out.keep C3)
    replace CW := Lib.hid (weak2 (a := a) (b := b) C3)
    have nM := H.out.new2 (k := w.heap.size)
    clear C1 c3 C3 oM nM
    have rG := H.out.2.1
    have oM := old rM
    go_wp2_with (go_at_call 103; refine (gtells_at _ _ g4 _).mono ?_; rintro e w' ⟨rfl, rfl⟩)
    go_ret2
    exact AgRet.nil (f := fun v => .tuple #[v, .int .i64 1]) H.out CW.out
  · have g4 : tellsB m.kd = false := by simpa [g3] using gg
    go_enter Tryz.func60, Tryz.ntmps60
    try dsimp only [List.append]
    go_wp2_with fail
    refine agen_calls1 (w := w) (b1 := w.heap.size) (x1 := .cells (msc m) 50 (0, 0)) (by (repeat' (first | with_reducible exact Chg.refl _ _ | with_reducible assumption | with_reducible refine Chg.drew ?_ | with_reducible refine Chg.drewN ?_ _ | with_reducible refine Chg.alloc ?_ _ | with_reducible refine Chg.putRow ?_ _ _ _ (.inr ?_) | with_reducible refine Chg.setCell ?_ _ _ _ (.inr ?_)  | (show _ ≤ _; first | exact Nat.le_refl _ | omega | (simp; done))))) (by simp [*]) fun w1 C1 rM => ?_
    have oM := old rM
    refine (gmgood_at m _ g3 w1 (hT.1.keep (H.out.1.1.trans C1) (by simp))).mono ?_
    rintro e w3 ⟨rfl, c3⟩
    replace rM := c3.keep rM List.not_mem_nil
    have C3 := C1.trans c3
    replace H := Lib.hid (H.out.keep C3)
    replace CW := Lib.hid (weak2 (a := a) (b := b) C3)
    have nM := H.out.new2 (k := w.heap.size)
    clear C1 c3 C3 oM nM
    have rG := H.out.2.1
    have oM := old rM
    go_wp2_with (go_at_call 103; refine (gtells_at _ _ g4 _).mono ?_; rintro e w' ⟨rfl, rfl⟩)
    go_ret2
    exact AgRet.nil (f := fun v => .tuple #[v, .int .i64 1]) H.out CW.out
set_option maxHeartbeats 4000000 in
theorem ghear_0 {W : World} {g a b S N : Nat} {s : Sta} (m : Ms) (g3 : mg m = true) (g4 : tellsB m.kd = true) (nx : Int) (hnx : nx = tb m.kd (findVal s.1 m.li).st) (n0 : nx = 0) (w : World) (h : Agt W w g a b S N s) (hu : s.2 ≤ 1000000000) (hT : Tabs W) : Calls Tryz.prog 60 #[.pointer (some ⟨g, 0, none⟩), .agg (msc m)] w (AgRet W w g a b S N (hearF S N s m).1 (fun v => .tuple #[v, .int .i64 (hearF S N s m).2.2]) (hearF S N s m).2.1) := by
  have H := Lib.hid h
  have rG := h.2.1
  have CW := Lib.hid (Chg.refl [a, b] w)
  clear h
  have HN := Lib.hid (H.out.new2 (k := w.heap.size) (Nat.le_refl _))
  have hf := fun W' hW => gfind_any (w := W') (s := s) (W := W) (g := g) (a := a) (b := b) (S := S) (N := N) hW m.li
  have hsa := find_sane H.out.sane m.li
  have hg : (mg m && tellsB m.kd) = true := by simp [g3, g4]
  rw [show hearF S N s m = (s, ([], 16)) by unfold hearF; rw [if_pos hg, ← hnx, if_pos n0]]
  have n0' : (nx == 0) = true := by simp [n0]
  clear hg n0
  generalize findVal s.1 m.li = x at hf hnx hsa
  go_enter Tryz.func60, Tryz.ntmps60
  try dsimp only [List.append]
  go_wp2_with fail
  refine agen_calls1 (w := w) (b1 := w.heap.size) (x1 := .cells (msc m) 50 (0, 0)) (by (repeat' (first | with_reducible exact Chg.refl _ _ | with_reducible assumption | with_reducible refine Chg.drew ?_ | with_reducible refine Chg.drewN ?_ _ | with_reducible refine Chg.alloc ?_ _ | with_reducible refine Chg.putRow ?_ _ _ _ (.inr ?_) | with_reducible refine Chg.setCell ?_ _ _ _ (.inr ?_)  | (show _ ≤ _; first | exact Nat.le_refl _ | omega | (simp; done))))) (by simp [*]) fun w1 C1 rM => ?_
  have oM := old rM
  refine (gmgood_at m _ g3 w1 (hT.1.keep (H.out.1.1.trans C1) (by simp))).mono ?_
  rintro e w3 ⟨rfl, c3⟩
  replace rM := c3.keep rM List.not_mem_nil
  have C3 := C1.trans c3
  replace H := Lib.hid (H.out.keep C3)
  replace CW := Lib.hid (weak2 (a := a) (b := b) C3)
  have nM := H.out.new2 (k := w.heap.size)
  clear C1 c3 C3 oM nM
  have rG := H.out.2.1
  have oM := old rM
  go_upto_region 3 with (go_at_call 103; refine (gtells_at _ _ g4 _).mono ?_; rintro e w' ⟨rfl, rfl⟩)
  go_cut [6, 7] (fun p q wx => ∃ pX, p = .pointer (some ⟨pX, 0, none⟩) ∧ q = .bool (dropVal s.1 m.li) ∧ wx.heap[pX]? = some (.cells (slc x) 205 (0, 0)) ∧ Chg [] w3 wx ∧ w3.heap.size ≤ pX)
  case first =>
    go_region_held3 (fun w' => w'.heap[g]? = some (.cells #[.pointer (some ⟨a, 0, none⟩)] 209 (0, 0)) ∧ w'.heap[w.heap.size]? = some (.cells (msc m) 50 (0, 0))) (exact ⟨Chg.keep (l := []) (w := w3) (by (repeat' (first | with_reducible exact cO | with_reducible exact Chg.refl _ _ | with_reducible refine Chg.alloc ?_ _ | with_reducible refine Chg.drew ?_ | with_reducible refine Chg.putRow ?_ _ _ _ (.inr ?_) | with_reducible exact Chg.size cO | with_reducible exact Nat.le_refl _))) rG (by simp), Chg.keep (l := []) (w := w3) (by (repeat' (first | with_reducible exact cO | with_reducible exact Chg.refl _ _ | with_reducible refine Chg.alloc ?_ _ | with_reducible refine Chg.drew ?_ | with_reducible refine Chg.putRow ?_ _ _ _ (.inr ?_) | with_reducible exact Chg.size cO | with_reducible exact Nat.le_refl _))) rM (by simp)⟩)
      (first
        | (go_at_call 104; refine (hf _ (H.out.keep (by first | exact Chg.drew (Chg.refl [] w3) | exact Chg.alloc (Chg.drew (Chg.refl [] w3)) _))).mono ?_; rintro e w4 ⟨rfl, c4⟩; (first | (have cO : Chg [] w3 w4 := Chg.trans (Chg.drew (Chg.refl [] w3)) c4) | (have cO : Chg [] w3 w4 := Chg.trans (Chg.alloc (Chg.drew (Chg.refl [] w3)) _) c4)); (first | (have rZ : w4.heap[w3.heap.size]? = some (.cells (slc sltZ) 205 (0, 0)) := c4.keep (snew_at w3.drew _) List.not_mem_nil) | (have rZ : True := trivial))))
    all_goals
      go_wp2_with fail
      go_meet
      case rel =>
        first
          | exact ⟨_, rfl, rfl, by simp, cO.alloc _, cO.size⟩
          | exact ⟨w3.heap.size, rfl, rfl, sput_row rZ, cO.putRow _ _ _ (.inr (Nat.le_refl _)), Nat.le_refl _⟩
  case rest =>
  obtain ⟨pX, rfl, rfl, rX, c5, lX⟩ := hcut
  have nX := H.out.new2 lX
  generalize hw5 : wc = w5 at *
  clear hw5
  replace rM := c5.keep rM List.not_mem_nil
  have nM : w.heap.size ∉ [a, b] := HN.out
  replace H := Lib.hid (H.out.keep c5)
  replace CW := Lib.hid (CW.out.trans (weak2 c5))
  clear c5
  have rG := H.out.2.1
  have oM := old rM
  have oX := old rX
  have nG := H.out.2.2.2.1
  obtain ⟨Kd, hKd, hKd2⟩ : ∃ K : Nat, K < 15 ∧ m.kd = K := by simp [tellsB] at g4; exact ⟨m.kd.toNat, by omega, by omega⟩
  obtain ⟨Ks, hKs, hKs2⟩ : ∃ K : Nat, K < 10 ∧ x.st = K := ⟨x.st.toNat, by omega, by omega⟩
  have hcell := tb_cell Kd Ks hKd hKs
  rw [← hKd2, ← hKs2, ← hnx] at hcell
  clear hnx
  obtain ⟨tT, fT, rT⟩ := hT.2.keep H.out.1.1 (by simp)
  have k1 : (Kd : Int) < 15 := by omega
  have k2 : (Ks : Int) < 10 := by omega
  have k3 : (0 : Int) ≤ (Kd : Int) := by omega
  have k4 : (0 : Int) ≤ (Ks : Int) := by omega
  go_wp2_with fail
  go_quiet (fail)
  go_wp2_with fail
  go_ret2
  exact AgRet.nil (f := fun v => .tuple #[v, .int .i64 16]) (H.out.keep (Chg.drewN (Chg.refl [] w5) _)) (CW.out.trans (Chg.drewN (Chg.refl [a, b] w5) _))
set_option maxHeartbeats 4000000 in
theorem ghear_10 {W : World} {g a b S N : Nat} {s : Sta} (m : Ms) (g3 : mg m = true) (g4 : tellsB m.kd = true) (nx : Int) (hnx : nx = tb m.kd (findVal s.1 m.li).st) (n10 : nx = 10) (w : World) (h : Agt W w g a b S N s) (hu : s.2 ≤ 1000000000) (hT : Tabs W) : Calls Tryz.prog 60 #[.pointer (some ⟨g, 0, none⟩), .agg (msc m)] w (AgRet W w g a b S N (hearF S N s m).1 (fun v => .tuple #[v, .int .i64 (hearF S N s m).2.2]) (hearF S N s m).2.1) := by
  have H := Lib.hid h
  have rG := h.2.1
  have CW := Lib.hid (Chg.refl [a, b] w)
  clear h
  have HN := Lib.hid (H.out.new2 (k := w.heap.size) (Nat.le_refl _))
  have hf := fun W' hW => gfind_any (w := W') (s := s) (W := W) (g := g) (a := a) (b := b) (S := S) (N := N) hW m.li
  have hsa := find_sane H.out.sane m.li
  have hg : (mg m && tellsB m.kd) = true := by simp [g3, g4]
  have n0 : ¬ nx = 0 := by omega
  rw [show hearF S N s m = (hearX S N s m nx, (answersL m.kd (findVal s.1 m.li) nx, 0)) by unfold hearF; rw [if_pos hg, ← hnx, if_neg n0]]
  have n0' : (nx == 0) = false := by simp [n0]
  have n1' : (nx == 10) = true := by simp [n10]
  rw [show hearX S N s m nx = dropS s m.li by unfold hearX; rw [if_pos n10]]
  clear hg n0 n10
  generalize findVal s.1 m.li = x at hf hnx hsa
  go_enter Tryz.func60, Tryz.ntmps60
  try dsimp only [List.append]
  go_wp2_with fail
  refine agen_calls1 (w := w) (b1 := w.heap.size) (x1 := .cells (msc m) 50 (0, 0)) (by (repeat' (first | with_reducible exact Chg.refl _ _ | with_reducible assumption | with_reducible refine Chg.drew ?_ | with_reducible refine Chg.drewN ?_ _ | with_reducible refine Chg.alloc ?_ _ | with_reducible refine Chg.putRow ?_ _ _ _ (.inr ?_) | with_reducible refine Chg.setCell ?_ _ _ _ (.inr ?_)  | (show _ ≤ _; first | exact Nat.le_refl _ | omega | (simp; done))))) (by simp [*]) fun w1 C1 rM => ?_
  have oM := old rM
  refine (gmgood_at m _ g3 w1 (hT.1.keep (H.out.1.1.trans C1) (by simp))).mono ?_
  rintro e w3 ⟨rfl, c3⟩
  replace rM := c3.keep rM List.not_mem_nil
  have C3 := C1.trans c3
  replace H := Lib.hid (H.out.keep C3)
  replace CW := Lib.hid (weak2 (a := a) (b := b) C3)
  have nM := H.out.new2 (k := w.heap.size)
  clear C1 c3 C3 oM nM
  have rG := H.out.2.1
  have oM := old rM
  go_upto_region 3 with (go_at_call 103; refine (gtells_at _ _ g4 _).mono ?_; rintro e w' ⟨rfl, rfl⟩)
  go_cut [6, 7] (fun p q wx => ∃ pX, p = .pointer (some ⟨pX, 0, none⟩) ∧ q = .bool (dropVal s.1 m.li) ∧ wx.heap[pX]? = some (.cells (slc x) 205 (0, 0)) ∧ Chg [] w3 wx ∧ w3.heap.size ≤ pX)
  case first =>
    go_region_held3 (fun w' => w'.heap[g]? = some (.cells #[.pointer (some ⟨a, 0, none⟩)] 209 (0, 0)) ∧ w'.heap[w.heap.size]? = some (.cells (msc m) 50 (0, 0))) (exact ⟨Chg.keep (l := []) (w := w3) (by (repeat' (first | with_reducible exact cO | with_reducible exact Chg.refl _ _ | with_reducible refine Chg.alloc ?_ _ | with_reducible refine Chg.drew ?_ | with_reducible refine Chg.putRow ?_ _ _ _ (.inr ?_) | with_reducible exact Chg.size cO | with_reducible exact Nat.le_refl _))) rG (by simp), Chg.keep (l := []) (w := w3) (by (repeat' (first | with_reducible exact cO | with_reducible exact Chg.refl _ _ | with_reducible refine Chg.alloc ?_ _ | with_reducible refine Chg.drew ?_ | with_reducible refine Chg.putRow ?_ _ _ _ (.inr ?_) | with_reducible exact Chg.size cO | with_reducible exact Nat.le_refl _))) rM (by simp)⟩)
      (first
        | (go_at_call 104; refine (hf _ (H.out.keep (by first | exact Chg.drew (Chg.refl [] w3) | exact Chg.alloc (Chg.drew (Chg.refl [] w3)) _))).mono ?_; rintro e w4 ⟨rfl, c4⟩; (first | (have cO : Chg [] w3 w4 := Chg.trans (Chg.drew (Chg.refl [] w3)) c4) | (have cO : Chg [] w3 w4 := Chg.trans (Chg.alloc (Chg.drew (Chg.refl [] w3)) _) c4)); (first | (have rZ : w4.heap[w3.heap.size]? = some (.cells (slc sltZ) 205 (0, 0)) := c4.keep (snew_at w3.drew _) List.not_mem_nil) | (have rZ : True := trivial))))
    all_goals
      go_wp2_with fail
      go_meet
      case rel =>
        first
          | exact ⟨_, rfl, rfl, by simp, cO.alloc _, cO.size⟩
          | exact ⟨w3.heap.size, rfl, rfl, sput_row rZ, cO.putRow _ _ _ (.inr (Nat.le_refl _)), Nat.le_refl _⟩
  case rest =>
  obtain ⟨pX, rfl, rfl, rX, c5, lX⟩ := hcut
  have nX := H.out.new2 lX
  generalize hw5 : wc = w5 at *
  clear hw5
  replace rM := c5.keep rM List.not_mem_nil
  have nM : w.heap.size ∉ [a, b] := HN.out
  replace H := Lib.hid (H.out.keep c5)
  replace CW := Lib.hid (CW.out.trans (weak2 c5))
  clear c5
  have rG := H.out.2.1
  have oM := old rM
  have oX := old rX
  have nG := H.out.2.2.2.1
  obtain ⟨Kd, hKd, hKd2⟩ : ∃ K : Nat, K < 15 ∧ m.kd = K := by simp [tellsB] at g4; exact ⟨m.kd.toNat, by omega, by omega⟩
  obtain ⟨Ks, hKs, hKs2⟩ : ∃ K : Nat, K < 10 ∧ x.st = K := ⟨x.st.toNat, by omega, by omega⟩
  have hcell := tb_cell Kd Ks hKd hKs
  rw [← hKd2, ← hKs2, ← hnx] at hcell
  clear hnx
  obtain ⟨tT, fT, rT⟩ := hT.2.keep H.out.1.1 (by simp)
  have k1 : (Kd : Int) < 15 := by omega
  have k2 : (Ks : Int) < 10 := by omega
  have k3 : (0 : Int) ≤ (Kd : Int) := by omega
  have k4 : (0 : Int) ≤ (Ks : Int) := by omega
  go_wp2_with fail
  go_quiet (fail)
  clear hKd2 hKs2
  have cD : Chg [] w5 (w5.drewN nq) := Chg.drewN (Chg.refl [] w5) nq
  generalize w5.drewN nq = w6 at cD ⊢
  replace H := Lib.hid (H.out.keep cD)
  replace CW := Lib.hid (CW.out.trans (weak2 cD))
  replace rM := cD.keep rM List.not_mem_nil
  replace rX := cD.keep rX List.not_mem_nil
  clear cD
  have rG := H.out.2.1
  have oM := old rM
  have oX := old rX
  clear rT
  go_wp2_with fail
  go_region_held3 (fun w' => w'.heap[g]? = some (.cells #[.pointer (some ⟨a, 0, none⟩)] 209 (0, 0)) ∧ w'.heap[w.heap.size]? = some (.cells (msc m) 50 (0, 0)) ∧ w'.heap[pX]? = some (.cells (slc x) 205 (0, 0))) (first | exact ⟨rG, rM, rX⟩ | exact ⟨c8.keep rG List.not_mem_nil, c8.keep rM List.not_mem_nil, c8.keep rX List.not_mem_nil⟩ | exact ⟨c4.keep rG nG, c4.keep rM nM, c4.keep rX nX⟩ | exact ⟨c4.keep (c8.keep rG List.not_mem_nil) nG, c4.keep (c8.keep rM List.not_mem_nil) nM, c4.keep (c8.keep rX List.not_mem_nil) nX⟩)
    (first
      | (go_at_call 105; refine (gdrop_any (H.out.keep (Chg.drew (Chg.refl [] w6))) m.li).mono ?_; rintro e w4 ⟨rfl, h4, c4⟩))
  all_goals
    have cT := Chg.trans (Chg.drew (Chg.refl [a, b] w6)) c4
    replace H := Lib.hid h4
    replace CW := Lib.hid (CW.out.trans cT)
    replace rX := cT.keep rX nX
    replace rM := cT.keep rM nM
    clear h4 c4 rG cT
    have rG := H.out.2.1
    go_wp2_with fail
    refine (ganswers_any _ x nx _).mono ?_
    rintro e w9 ⟨A, n, rfl, h1, c9⟩
    go_wp2_with fail
    go_ret2
    exact AgRet.ms (f := fun v => .tuple #[v, .int .i64 0]) H.out CW.out h1 c9
set_option maxHeartbeats 4000000 in
theorem ghear_11 {W : World} {g a b S N : Nat} {s : Sta} (m : Ms) (g3 : mg m = true) (g4 : tellsB m.kd = true) (nx : Int) (hnx : nx = tb m.kd (findVal s.1 m.li).st) (n11 : nx = 11) (w : World) (h : Agt W w g a b S N s) (hu : s.2 ≤ 1000000000) (hT : Tabs W) : Calls Tryz.prog 60 #[.pointer (some ⟨g, 0, none⟩), .agg (msc m)] w (AgRet W w g a b S N (hearF S N s m).1 (fun v => .tuple #[v, .int .i64 (hearF S N s m).2.2]) (hearF S N s m).2.1) := by
  have H := Lib.hid h
  have rG := h.2.1
  have CW := Lib.hid (Chg.refl [a, b] w)
  clear h
  have HN := Lib.hid (H.out.new2 (k := w.heap.size) (Nat.le_refl _))
  have hf := fun W' hW => gfind_any (w := W') (s := s) (W := W) (g := g) (a := a) (b := b) (S := S) (N := N) hW m.li
  have hsa := find_sane H.out.sane m.li
  have hg : (mg m && tellsB m.kd) = true := by simp [g3, g4]
  have n0 : ¬ nx = 0 := by omega
  rw [show hearF S N s m = (hearX S N s m nx, (answersL m.kd (findVal s.1 m.li) nx, 0)) by unfold hearF; rw [if_pos hg, ← hnx, if_neg n0]]
  have n0' : (nx == 0) = false := by simp [n0]
  have n1' : (nx == 10) = false := by simp; omega
  have n2' : (nx == 11) = true := by simp [n11]
  rw [show hearX S N s m nx = s by unfold hearX; rw [if_neg (by omega), if_pos n11]]
  clear hg n0 n11
  generalize findVal s.1 m.li = x at hf hnx hsa
  go_enter Tryz.func60, Tryz.ntmps60
  try dsimp only [List.append]
  go_wp2_with fail
  refine agen_calls1 (w := w) (b1 := w.heap.size) (x1 := .cells (msc m) 50 (0, 0)) (by (repeat' (first | with_reducible exact Chg.refl _ _ | with_reducible assumption | with_reducible refine Chg.drew ?_ | with_reducible refine Chg.drewN ?_ _ | with_reducible refine Chg.alloc ?_ _ | with_reducible refine Chg.putRow ?_ _ _ _ (.inr ?_) | with_reducible refine Chg.setCell ?_ _ _ _ (.inr ?_)  | (show _ ≤ _; first | exact Nat.le_refl _ | omega | (simp; done))))) (by simp [*]) fun w1 C1 rM => ?_
  have oM := old rM
  refine (gmgood_at m _ g3 w1 (hT.1.keep (H.out.1.1.trans C1) (by simp))).mono ?_
  rintro e w3 ⟨rfl, c3⟩
  replace rM := c3.keep rM List.not_mem_nil
  have C3 := C1.trans c3
  replace H := Lib.hid (H.out.keep C3)
  replace CW := Lib.hid (weak2 (a := a) (b := b) C3)
  have nM := H.out.new2 (k := w.heap.size)
  clear C1 c3 C3 oM nM
  have rG := H.out.2.1
  have oM := old rM
  go_upto_region 3 with (go_at_call 103; refine (gtells_at _ _ g4 _).mono ?_; rintro e w' ⟨rfl, rfl⟩)
  go_cut [6, 7] (fun p q wx => ∃ pX, p = .pointer (some ⟨pX, 0, none⟩) ∧ q = .bool (dropVal s.1 m.li) ∧ wx.heap[pX]? = some (.cells (slc x) 205 (0, 0)) ∧ Chg [] w3 wx ∧ w3.heap.size ≤ pX)
  case first =>
    go_region_held3 (fun w' => w'.heap[g]? = some (.cells #[.pointer (some ⟨a, 0, none⟩)] 209 (0, 0)) ∧ w'.heap[w.heap.size]? = some (.cells (msc m) 50 (0, 0))) (exact ⟨Chg.keep (l := []) (w := w3) (by (repeat' (first | with_reducible exact cO | with_reducible exact Chg.refl _ _ | with_reducible refine Chg.alloc ?_ _ | with_reducible refine Chg.drew ?_ | with_reducible refine Chg.putRow ?_ _ _ _ (.inr ?_) | with_reducible exact Chg.size cO | with_reducible exact Nat.le_refl _))) rG (by simp), Chg.keep (l := []) (w := w3) (by (repeat' (first | with_reducible exact cO | with_reducible exact Chg.refl _ _ | with_reducible refine Chg.alloc ?_ _ | with_reducible refine Chg.drew ?_ | with_reducible refine Chg.putRow ?_ _ _ _ (.inr ?_) | with_reducible exact Chg.size cO | with_reducible exact Nat.le_refl _))) rM (by simp)⟩)
      (first
        | (go_at_call 104; refine (hf _ (H.out.keep (by first | exact Chg.drew (Chg.refl [] w3) | exact Chg.alloc (Chg.drew (Chg.refl [] w3)) _))).mono ?_; rintro e w4 ⟨rfl, c4⟩; (first | (have cO : Chg [] w3 w4 := Chg.trans (Chg.drew (Chg.refl [] w3)) c4) | (have cO : Chg [] w3 w4 := Chg.trans (Chg.alloc (Chg.drew (Chg.refl [] w3)) _) c4)); (first | (have rZ : w4.heap[w3.heap.size]? = some (.cells (slc sltZ) 205 (0, 0)) := c4.keep (snew_at w3.drew _) List.not_mem_nil) | (have rZ : True := trivial))))
    all_goals
      go_wp2_with fail
      go_meet
      case rel =>
        first
          | exact ⟨_, rfl, rfl, by simp, cO.alloc _, cO.size⟩
          | exact ⟨w3.heap.size, rfl, rfl, sput_row rZ, cO.putRow _ _ _ (.inr (Nat.le_refl _)), Nat.le_refl _⟩
  case rest =>
  obtain ⟨pX, rfl, rfl, rX, c5, lX⟩ := hcut
  have nX := H.out.new2 lX
  generalize hw5 : wc = w5 at *
  clear hw5
  replace rM := c5.keep rM List.not_mem_nil
  have nM : w.heap.size ∉ [a, b] := HN.out
  replace H := Lib.hid (H.out.keep c5)
  replace CW := Lib.hid (CW.out.trans (weak2 c5))
  clear c5
  have rG := H.out.2.1
  have oM := old rM
  have oX := old rX
  have nG := H.out.2.2.2.1
  obtain ⟨Kd, hKd, hKd2⟩ : ∃ K : Nat, K < 15 ∧ m.kd = K := by simp [tellsB] at g4; exact ⟨m.kd.toNat, by omega, by omega⟩
  obtain ⟨Ks, hKs, hKs2⟩ : ∃ K : Nat, K < 10 ∧ x.st = K := ⟨x.st.toNat, by omega, by omega⟩
  have hcell := tb_cell Kd Ks hKd hKs
  rw [← hKd2, ← hKs2, ← hnx] at hcell
  clear hnx
  obtain ⟨tT, fT, rT⟩ := hT.2.keep H.out.1.1 (by simp)
  have k1 : (Kd : Int) < 15 := by omega
  have k2 : (Ks : Int) < 10 := by omega
  have k3 : (0 : Int) ≤ (Kd : Int) := by omega
  have k4 : (0 : Int) ≤ (Ks : Int) := by omega
  go_wp2_with fail
  go_quiet (fail)
  clear hKd2 hKs2
  have cD : Chg [] w5 (w5.drewN nq) := Chg.drewN (Chg.refl [] w5) nq
  generalize w5.drewN nq = w6 at cD ⊢
  replace H := Lib.hid (H.out.keep cD)
  replace CW := Lib.hid (CW.out.trans (weak2 cD))
  replace rM := cD.keep rM List.not_mem_nil
  replace rX := cD.keep rX List.not_mem_nil
  clear cD
  have rG := H.out.2.1
  have oM := old rM
  have oX := old rX
  clear rT
  go_wp2_with fail
  refine (ganswers_any _ x nx _).mono ?_
  rintro e w9 ⟨A, n, rfl, h1, c9⟩
  go_wp2_with fail
  go_ret2
  exact AgRet.ms (f := fun v => .tuple #[v, .int .i64 0]) H.out CW.out h1 c9
set_option maxHeartbeats 4000000 in
theorem ghear_s {W : World} {g a b S N : Nat} {s : Sta} (m : Ms) (g3 : mg m = true) (g4 : tellsB m.kd = true) (nx : Int) (hnx : nx = tb m.kd (findVal s.1 m.li).st) (n0 : ¬ nx = 0) (n10 : ¬ nx = 10) (n11 : ¬ nx = 11) (w : World) (h : Agt W w g a b S N s) (hu : s.2 ≤ 1000000000) (hT : Tabs W) : Calls Tryz.prog 60 #[.pointer (some ⟨g, 0, none⟩), .agg (msc m)] w (AgRet W w g a b S N (hearF S N s m).1 (fun v => .tuple #[v, .int .i64 (hearF S N s m).2.2]) (hearF S N s m).2.1) := by
  have H := Lib.hid h
  have rG := h.2.1
  have CW := Lib.hid (Chg.refl [a, b] w)
  clear h
  have HN := Lib.hid (H.out.new2 (k := w.heap.size) (Nat.le_refl _))
  have hf := fun W' hW => gfind_any (w := W') (s := s) (W := W) (g := g) (a := a) (b := b) (S := S) (N := N) hW m.li
  have hsa := find_sane H.out.sane m.li
  have hg : (mg m && tellsB m.kd) = true := by simp [g3, g4]
  rw [show hearF S N s m = (hearX S N s m nx, (answersL m.kd (findVal s.1 m.li) nx, 0)) by unfold hearF; rw [if_pos hg, ← hnx, if_neg n0]]
  have n0' : (nx == 0) = false := by simp [n0]
  have n1' : (nx == 10) = false := by simp [n10]
  have n2' : (nx == 11) = false := by simp [n11]
  have e1 : hearX S N s m nx = setS S N s m.li nx (wordsL m (findVal s.1 m.li) nx) (wordsL_len _ _ _) := by unfold hearX; rw [if_neg n10, if_neg n11]
  rw [e1]
  clear e1 hg n0 n10 n11
  generalize findVal s.1 m.li = x at hf hnx hsa
  go_enter Tryz.func60, Tryz.ntmps60
  try dsimp only [List.append]
  go_wp2_with fail
  refine agen_calls1 (w := w) (b1 := w.heap.size) (x1 := .cells (msc m) 50 (0, 0)) (by (repeat' (first | with_reducible exact Chg.refl _ _ | with_reducible assumption | with_reducible refine Chg.drew ?_ | with_reducible refine Chg.drewN ?_ _ | with_reducible refine Chg.alloc ?_ _ | with_reducible refine Chg.putRow ?_ _ _ _ (.inr ?_) | with_reducible refine Chg.setCell ?_ _ _ _ (.inr ?_)  | (show _ ≤ _; first | exact Nat.le_refl _ | omega | (simp; done))))) (by simp [*]) fun w1 C1 rM => ?_
  have oM := old rM
  refine (gmgood_at m _ g3 w1 (hT.1.keep (H.out.1.1.trans C1) (by simp))).mono ?_
  rintro e w3 ⟨rfl, c3⟩
  replace rM := c3.keep rM List.not_mem_nil
  have C3 := C1.trans c3
  replace H := Lib.hid (H.out.keep C3)
  replace CW := Lib.hid (weak2 (a := a) (b := b) C3)
  have nM := H.out.new2 (k := w.heap.size)
  clear C1 c3 C3 oM nM
  have rG := H.out.2.1
  have oM := old rM
  go_upto_region 3 with (go_at_call 103; refine (gtells_at _ _ g4 _).mono ?_; rintro e w' ⟨rfl, rfl⟩)
  go_cut [6, 7] (fun p q wx => ∃ pX, p = .pointer (some ⟨pX, 0, none⟩) ∧ q = .bool (dropVal s.1 m.li) ∧ wx.heap[pX]? = some (.cells (slc x) 205 (0, 0)) ∧ Chg [] w3 wx ∧ w3.heap.size ≤ pX)
  case first =>
    go_region_held3 (fun w' => w'.heap[g]? = some (.cells #[.pointer (some ⟨a, 0, none⟩)] 209 (0, 0)) ∧ w'.heap[w.heap.size]? = some (.cells (msc m) 50 (0, 0))) (exact ⟨Chg.keep (l := []) (w := w3) (by (repeat' (first | with_reducible exact cO | with_reducible exact Chg.refl _ _ | with_reducible refine Chg.alloc ?_ _ | with_reducible refine Chg.drew ?_ | with_reducible refine Chg.putRow ?_ _ _ _ (.inr ?_) | with_reducible exact Chg.size cO | with_reducible exact Nat.le_refl _))) rG (by simp), Chg.keep (l := []) (w := w3) (by (repeat' (first | with_reducible exact cO | with_reducible exact Chg.refl _ _ | with_reducible refine Chg.alloc ?_ _ | with_reducible refine Chg.drew ?_ | with_reducible refine Chg.putRow ?_ _ _ _ (.inr ?_) | with_reducible exact Chg.size cO | with_reducible exact Nat.le_refl _))) rM (by simp)⟩)
      (first
        | (go_at_call 104; refine (hf _ (H.out.keep (by first | exact Chg.drew (Chg.refl [] w3) | exact Chg.alloc (Chg.drew (Chg.refl [] w3)) _))).mono ?_; rintro e w4 ⟨rfl, c4⟩; (first | (have cO : Chg [] w3 w4 := Chg.trans (Chg.drew (Chg.refl [] w3)) c4) | (have cO : Chg [] w3 w4 := Chg.trans (Chg.alloc (Chg.drew (Chg.refl [] w3)) _) c4)); (first | (have rZ : w4.heap[w3.heap.size]? = some (.cells (slc sltZ) 205 (0, 0)) := c4.keep (snew_at w3.drew _) List.not_mem_nil) | (have rZ : True := trivial))))
    all_goals
      go_wp2_with fail
      go_meet
      case rel =>
        first
          | exact ⟨_, rfl, rfl, by simp, cO.alloc _, cO.size⟩
          | exact ⟨w3.heap.size, rfl, rfl, sput_row rZ, cO.putRow _ _ _ (.inr (Nat.le_refl _)), Nat.le_refl _⟩
  case rest =>
  obtain ⟨pX, rfl, rfl, rX, c5, lX⟩ := hcut
  have nX := H.out.new2 lX
  generalize hw5 : wc = w5 at *
  clear hw5
  replace rM := c5.keep rM List.not_mem_nil
  have nM : w.heap.size ∉ [a, b] := HN.out
  replace H := Lib.hid (H.out.keep c5)
  replace CW := Lib.hid (CW.out.trans (weak2 c5))
  clear c5
  have rG := H.out.2.1
  have oM := old rM
  have oX := old rX
  have nG := H.out.2.2.2.1
  obtain ⟨Kd, hKd, hKd2⟩ : ∃ K : Nat, K < 15 ∧ m.kd = K := by simp [tellsB] at g4; exact ⟨m.kd.toNat, by omega, by omega⟩
  obtain ⟨Ks, hKs, hKs2⟩ : ∃ K : Nat, K < 10 ∧ x.st = K := ⟨x.st.toNat, by omega, by omega⟩
  have hcell := tb_cell Kd Ks hKd hKs
  rw [← hKd2, ← hKs2, ← hnx] at hcell
  clear hnx
  obtain ⟨tT, fT, rT⟩ := hT.2.keep H.out.1.1 (by simp)
  have k1 : (Kd : Int) < 15 := by omega
  have k2 : (Ks : Int) < 10 := by omega
  have k3 : (0 : Int) ≤ (Kd : Int) := by omega
  have k4 : (0 : Int) ≤ (Ks : Int) := by omega
  go_wp2_with fail
  go_quiet (fail)
  clear hKd2 hKs2
  have cD : Chg [] w5 (w5.drewN nq) := Chg.drewN (Chg.refl [] w5) nq
  generalize w5.drewN nq = w6 at cD ⊢
  replace H := Lib.hid (H.out.keep cD)
  replace CW := Lib.hid (CW.out.trans (weak2 cD))
  replace rM := cD.keep rM List.not_mem_nil
  replace rX := cD.keep rX List.not_mem_nil
  clear cD
  have rG := H.out.2.1
  have oM := old rM
  have oX := old rX
  clear rT
  go_wp2_with fail
  go_region_held3 (fun w' => w'.heap[g]? = some (.cells #[.pointer (some ⟨a, 0, none⟩)] 209 (0, 0)) ∧ w'.heap[w.heap.size]? = some (.cells (msc m) 50 (0, 0)) ∧ w'.heap[pX]? = some (.cells (slc x) 205 (0, 0))) (first | exact ⟨rG, rM, rX⟩ | exact ⟨c8.keep rG List.not_mem_nil, c8.keep rM List.not_mem_nil, c8.keep rX List.not_mem_nil⟩ | exact ⟨c4.keep rG nG, c4.keep rM nM, c4.keep rX nX⟩ | exact ⟨c4.keep (c8.keep rG List.not_mem_nil) nG, c4.keep (c8.keep rM List.not_mem_nil) nM, c4.keep (c8.keep rX List.not_mem_nil) nX⟩)
    (first
      | (go_at_call 107; refine (gwords_any m x nx _).mono ?_; rintro e w8 ⟨rfl, c8⟩)
      | (go_at_call 106; refine (gset_any (H.out.keep (Chg.trans (Chg.drew (Chg.refl [] w6)) c8)) hu m.li nx _ (wordsL_len m x nx)).mono ?_; rintro e w4 ⟨rfl, h4, c4⟩))
  all_goals
    have cT := Chg.trans (weak2 (Chg.trans (Chg.drew (Chg.refl [] w6)) c8)) c4
    replace H := Lib.hid h4
    replace CW := Lib.hid (CW.out.trans cT)
    replace rX := cT.keep rX nX
    replace rM := cT.keep rM nM
    clear h4 c4 rG cT
    have rG := H.out.2.1
    go_wp2_with fail
    refine (ganswers_any _ x nx _).mono ?_
    rintro e w9 ⟨A, n, rfl, h1, c9⟩
    go_wp2_with fail
    go_ret2
    exact AgRet.ms (f := fun v => .tuple #[v, .int .i64 0]) H.out CW.out h1 c9
theorem ghear_any {W : World} {g a b S N : Nat} {s : Sta} (m : Ms) (w : World) (h : Agt W w g a b S N s) (hu : s.2 ≤ 1000000000) (hT : Tabs W) : Calls Tryz.prog 60 #[.pointer (some ⟨g, 0, none⟩), .agg (msc m)] w (AgRet W w g a b S N (hearF S N s m).1 (fun v => .tuple #[v, .int .i64 (hearF S N s m).2.2]) (hearF S N s m).2.1) := by
  cases gg : (mg m && tellsB m.kd)
  · exact ghear_args m gg w h hu hT
  · have g' := gg
    rw [Bool.and_eq_true] at g'
    by_cases n0 : tb m.kd (findVal s.1 m.li).st = 0
    · exact ghear_0 m g'.1 g'.2 _ rfl n0 w h hu hT
    by_cases n10 : tb m.kd (findVal s.1 m.li).st = 10
    · exact ghear_10 m g'.1 g'.2 _ rfl n10 w h hu hT
    by_cases n11 : tb m.kd (findVal s.1 m.li).st = 11
    · exact ghear_11 m g'.1 g'.2 _ rfl n11 w h hu hT
    · exact ghear_s m g'.1 g'.2 _ rfl n0 n10 n11 w h hu hT
end Go.Proofs.YtcjoinhngdfdmaaGreatDoor
end
