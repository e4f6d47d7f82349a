/- Texts of the walk, one behind the other: Age Agf Mes Met. No condition. -/
import Derived.Test.YtadeoflkppiflaaGreatDoorNab
import Derived.Test.YtadeoflkppiflaaGreatDoorNac
import Derived.Test.YtadeoflkppiflaaGreatDoorNad
import Derived.Test.YtadeoflkppiflaaGreatDoorNae
import Derived.Test.YtadeoflkppiflaaGreatDoorNaf
import Derived.BigQuiet
import Derived.Deep.Cut
import Derived.Deep.CutBlock
import Derived.Deep.CutRange
import Derived.Deep.DeepCutAuto
import Derived.Deep.QuietTactic
import Derived.Deep.RegionHeld3
import Derived.Deep.RegionWith
section
namespace Go.Proofs.YtadeoflkppiflaaGreatDoor
open Go.RowKit
set_option linter.unusedVariables false
set_option maxHeartbeats 1000000
attribute [local go_sem ↓] append_appS copy_copS clear_clrS make_mkS cell_row frozen_row loadLine storeLine loadSlot storeSlot heap_drew heap_drewN heap_alloc heap_past heap_setCell heap_putRow vs_get slc_st slc_li slc_us slice_slS loadMsg storeMsg loadHas storeHas msc_kd msc_li msc_di msc_ke
attribute [local go_sem] rowCell_some rowFrozen_some rowHas_some rowIn_some rowPart_full rowPart_lit rowPut_full rowPut_lit rowSet_some size_putRow vs_size vs_one wideLine wideSlot run_loadS run_storeS run_appS run_copS run_clrS run_mkS loadW_at storeW_at fit_all fit_le one_int one_bool one_pointer one_slice allOne_list putRow_new ne_size1 ne_size2 ne_size3 ne_size4 zero8_length lines_nil line_eq lit8 slc_size slc_one slc_part slc_in fold_slt fold_slc slc_set_us wideMsg wideHas run_slS msc_size msc_one msc_part msc_in fold_msc msc_putDi msc_putKe msc_putX msc_has ms4_lit ms4_k ms4_l ms4_e
attribute [local simp ↓] heap_drew heap_drewN heap_alloc heap_past heap_setCell heap_putRow
attribute [local simp] rowCell_some rowFrozen_some rowHas_some rowIn_some rowPart_full rowPart_lit rowPut_full rowPut_lit rowSet_some size_putRow vs_size fit_all putRow_new ne_size1 ne_size2 ne_size3 ne_size4 zero8_length slc_size msc_size msc_putDi msc_putKe msc_putX msc_has fit_le ms4_k ms4_l ms4_e


/-! ### The table of what messages make of slots -/
def tbL : List Value := ((List.range 15).map fun k : Nat => (List.range 10).map fun j : Nat => Value.int .i64 (tb k j)).flatten
def TabB (w : World) : Prop := ∃ t f, w.heap[0]? = some (.cells tbL.toArray t f)
theorem TabB.keep {w w' : World} {l : List Nat} (h : TabB w) (hc : Chg l w w') (h0 : 0 ∉ l) : TabB w' := by
  obtain ⟨t, f, h⟩ := h
  exact ⟨t, f, hc.keep h h0⟩
theorem tb_cell (k j : Nat) (hk : k < 15) (hj : j < 10) : tbL.toArray[k * 10 + j]? = some (.int .i64 (tb k j)) := by
  have h : ∀ k : Nat, k < 15 → ∀ j : Nat, j < 10 → tbL[k * 10 + j]? = some (.int .i64 (tb k j)) := by
    intro k hk j hj
    have h1 : k = 0 ∨ k = 1 ∨ k = 2 ∨ k = 3 ∨ k = 4 ∨ k = 5 ∨ k = 6 ∨ k = 7 ∨ k = 8 ∨ k = 9 ∨ k = 10 ∨ k = 11 ∨ k = 12 ∨ k = 13 ∨ k = 14 := by omega
    have h2 : j = 0 ∨ j = 1 ∨ j = 2 ∨ j = 3 ∨ j = 4 ∨ j = 5 ∨ j = 6 ∨ j = 7 ∨ j = 8 ∨ j = 9 := by omega
    rcases h1 with rfl | rfl | rfl | rfl | rfl | rfl | rfl | rfl | rfl | rfl | rfl | rfl | rfl | rfl | rfl <;> rcases h2 with rfl | rfl | rfl | rfl | rfl | rfl | rfl | rfl | rfl | rfl <;> rfl
  rw [List.getElem?_toArray]
  exact h k hk j hj
def Tabs (W : World) : Prop := Tab W ∧ TabB W
theorem gmgood_at (m : Ms) (b : Bool) (h : mg m = b) (w : World) (ht : Tab w) : Calls Tryz.prog 144 #[.agg (msc m)] w fun e w' => e = .returned (.bool b) ∧ Chg [] w w' := h ▸ mgood_any m w ht
theorem gtells_at (k : Int) (b : Bool) (h : tellsB k = b) (w : World) : Calls Tryz.prog 149 #[.int .i64 k] w fun e w' => e = .returned (.bool b) ∧ w = w' := h ▸ tells_any k w
theorem gevict_any {W : World} {g a b S N : Nat} {s : Sta} (li : Int) (w : World) (h : Agt W w g a b S N s) (hu : s.2 ≤ 1000000000) : Calls Tryz.prog 87 #[.pointer (some ⟨g, 0, none⟩), .int .i64 li] w (AgRet W w g a b S N (evictF S N s li).1 (fun v => .tuple #[v, .int .i64 (evictF S N s li).2.2]) (evictF S N s li).2.1) := by
  have H := Lib.hid h
  have rG := h.2.1
  have CW := Lib.hid (Chg.refl [a, b] w)
  clear h
  cases hi : idleB s.1
  · rw [show evictF S N s li = (s, ([], 15)) by unfold evictF; rw [if_neg (by simp [hi])]]
    go_enter Tryz.func87, Tryz.ntmps87
    try dsimp only [List.append]
    go_wp2_with fail
    refine (gidle_at _ hi w H.out).mono ?_
    rintro e w2 ⟨rfl, c2⟩
    go_wp2_with fail
    go_ret2
    exact AgRet.nil (f := fun v => .tuple #[v, .int .i64 15]) (H.out.keep c2) (weak2 c2)
  · have ho := fun w' h => gout_any (W := W) (g := g) (a := a) (b := b) (S := S) (N := N) (s := s) li w' h hu
    cases hr : atRest (findVal s.1 li).st
    · rw [show evictF S N s li = (s, ([], 14)) by unfold evictF; rw [if_pos hi, out_no hr]; rfl]
      rw [out_no hr] at ho
      go_enter Tryz.func87, Tryz.ntmps87
      try dsimp only [List.append]
      go_wp2_with fail
      refine (gidle_at _ hi w H.out).mono ?_
      rintro e w2 ⟨rfl, c2⟩
      replace H := Lib.hid (H.out.keep c2)
      replace CW := Lib.hid (CW.out.trans (weak2 c2))
      clear c2
      have rG := H.out.2.1
      go_wp2_with fail
      refine (ho w2 H.out).mono ?_
      rintro e w3 ⟨A, n, rfl, h1, h2, h3⟩
      go_wp2_with fail
      go_ret2
      exact AgRet.nil (f := fun v => .tuple #[v, .int .i64 14]) h2 (CW.out.trans h3)
    · rw [show evictF S N s li = ((outF S N s li).1, ((outF S N s li).2, 0)) by unfold evictF; rw [if_pos hi, out_yes hr]; rfl]
      rw [out_yes hr] at ho ⊢
      generalize toldM 3 (findVal s.1 li) false = m0 at ho
      generalize setS S N s li (outNx (findVal s.1 li).st) (findVal s.1 li).l (findVal s.1 li).h = s1 at ho
      go_enter Tryz.func87, Tryz.ntmps87
      try dsimp only [List.append]
      go_wp2_with fail
      refine (gidle_at _ hi w H.out).mono ?_
      rintro e w2 ⟨rfl, c2⟩
      replace H := Lib.hid (H.out.keep c2)
      replace CW := Lib.hid (CW.out.trans (weak2 c2))
      clear c2
      have rG := H.out.2.1
      go_wp2_with fail
      refine (ho w2 H.out).mono ?_
      rintro e w3 ⟨A, n, rfl, h1, h2, h3⟩
      go_wp2_with fail
      go_ret2
      exact ⟨A, n, rfl, h1.from CW.out.size, h2, CW.out.trans h3⟩

theorem snew_at (w : World) (o : Obj) : (w.alloc o).heap[w.heap.size]? = some o := by simp
theorem sput_row {w : World} {r : Nat} {x y : Slt} {t : TypeId} (h : w.heap[r]? = some (.cells (slc y) t (0, 0))) : (putRow w r 0 (slc x)).heap[r]? = some (.cells (slc x) t (0, 0)) := by
  simp [h, slc_size]
theorem AgRet.ms {W w w1 w2 : World} {g a b S N : Nat} {s : Sta} {f : Value → Value} {A : Option Addr} {ms : List Ms} {n : Nat} (h : Agt W w1 g a b S N s) (hc : Chg [a, b] w w1) (h1 : Told w1 w2 A ms) (c : Chg [] w1 w2) : AgRet W w g a b S N s f ms (.returned (f (.slice A ms.length n))) w2 :=
  ⟨A, n, rfl, h1.from hc.size, h.keep c, hc.trans (weak2 c)⟩
theorem ghear_args {W : World} {g a b S N : Nat} {s : Sta} (m : Ms) (gg : (mg m && tellsB m.kd) = false) (w : World) (h : Agt W w g a b S N s) (hu : s.2 ≤ 1000000000) (hT : Tabs W) : Calls Tryz.prog 93 #[.pointer (some ⟨g, 0, none⟩), .agg (msc m)] w (AgRet W w g a b S N (hearF S N s m).1 (fun v => .tuple #[v, .int .i64 (hearF S N s m).2.2]) (hearF S N s m).2.1) := by
  have H := Lib.hid h
  have rG := h.2.1
  have CW := Lib.hid (Chg.refl [a, b] w)
  clear h
  rw [show hearF S N s m = (s, ([], 1)) by unfold hearF; rw [if_neg (by simp [gg])]]
  cases g3 : mg m
  · skip
    go_enter Tryz.func93, Tryz.ntmps93
    try dsimp only [List.append]
    go_wp2_with fail
    refine agen_calls1 (w := w) (b1 := w.heap.size) (x1 := .cells (msc m) 38 (0, 0)) (by (repeat' (first | with_reducible exact Chg.refl _ _ | with_reducible assumption | with_reducible refine Chg.drew ?_ | with_reducible refine Chg.drewN ?_ _ | with_reducible refine Chg.alloc ?_ _ | with_reducible refine Chg.putRow ?_ _ _ _ (.inr ?_) | with_reducible refine Chg.setCell ?_ _ _ _ (.inr ?_)  | (show _ ≤ _; first | exact Nat.le_refl _ | omega | (simp; done))))) (by simp [*]) fun w1 C1 rM => ?_
    have oM := old rM
    refine (gmgood_at m _ g3 w1 (hT.1.keep (H.out.1.1.trans C1) (by simp))).mono ?_
    rintro e w3 ⟨rfl, c3⟩
    replace rM := c3.keep rM List.not_mem_nil
    have C3 := C1.trans c3
    replace H := Lib.hid (H.out.keep C3)
    replace CW := Lib.hid (weak2 (a := a) (b := b) C3)
    have nM := H.out.new2 (k := w.heap.size)
    clear C1 c3 C3 oM nM
    have rG := H.out.2.1
    have oM := old rM
    go_wp2_with (go_at_call 149; refine (gtells_at _ _ g4 _).mono ?_; rintro e w' ⟨rfl, rfl⟩)
    go_ret2
    exact AgRet.nil (f := fun v => .tuple #[v, .int .i64 1]) H.out CW.out
  · have g4 : tellsB m.kd = false := by simpa [g3] using gg
    go_enter Tryz.func93, Tryz.ntmps93
    try dsimp only [List.append]
    go_wp2_with fail
    refine agen_calls1 (w := w) (b1 := w.heap.size) (x1 := .cells (msc m) 38 (0, 0)) (by (repeat' (first | with_reducible exact Chg.refl _ _ | with_reducible assumption | with_reducible refine Chg.drew ?_ | with_reducible refine Chg.drewN ?_ _ | with_reducible refine Chg.alloc ?_ _ | with_reducible refine Chg.putRow ?_ _ _ _ (.inr ?_) | with_reducible refine Chg.setCell ?_ _ _ _ (.inr ?_)  | (show _ ≤ _; first | exact Nat.le_refl _ | omega | (simp; done))))) (by simp [*]) fun w1 C1 rM => ?_
    have oM := old rM
    refine (gmgood_at m _ g3 w1 (hT.1.keep (H.out.1.1.trans C1) (by simp))).mono ?_
    rintro e w3 ⟨rfl, c3⟩
    replace rM := c3.keep rM List.not_mem_nil
    have C3 := C1.trans c3
    replace H := Lib.hid (H.out.keep C3)
    replace CW := Lib.hid (weak2 (a := a) (b := b) C3)
    have nM := H.out.new2 (k := w.heap.size)
    clear C1 c3 C3 oM nM
    have rG := H.out.2.1
    have oM := old rM
    go_wp2_with (go_at_call 149; refine (gtells_at _ _ g4 _).mono ?_; rintro e w' ⟨rfl, rfl⟩)
    go_ret2
    exact AgRet.nil (f := fun v => .tuple #[v, .int .i64 1]) H.out CW.out
set_option maxHeartbeats 4000000 in
theorem ghear_0 {W : World} {g a b S N : Nat} {s : Sta} (m : Ms) (g3 : mg m = true) (g4 : tellsB m.kd = true) (nx : Int) (hnx : nx = tb m.kd (findVal s.1 m.li).st) (n0 : nx = 0) (w : World) (h : Agt W w g a b S N s) (hu : s.2 ≤ 1000000000) (hT : Tabs W) : Calls Tryz.prog 93 #[.pointer (some ⟨g, 0, none⟩), .agg (msc m)] w (AgRet W w g a b S N (hearF S N s m).1 (fun v => .tuple #[v, .int .i64 (hearF S N s m).2.2]) (hearF S N s m).2.1) := by
  have H := Lib.hid h
  have rG := h.2.1
  have CW := Lib.hid (Chg.refl [a, b] w)
  clear h
  have HN := Lib.hid (H.out.new2 (k := w.heap.size) (Nat.le_refl _))
  have hf := fun W' hW => gfind_any (w := W') (s := s) (W := W) (g := g) (a := a) (b := b) (S := S) (N := N) hW m.li
  have hsa := find_sane H.out.sane m.li
  have hg : (mg m && tellsB m.kd) = true := by simp [g3, g4]
  rw [show hearF S N s m = (s, ([], 16)) by unfold hearF; rw [if_pos hg, ← hnx, if_pos n0]]
  have n0' : (nx == 0) = true := by simp [n0]
  clear hg n0
  generalize findVal s.1 m.li = x at hf hnx hsa
  go_enter Tryz.func93, Tryz.ntmps93
  try dsimp only [List.append]
  go_wp2_with fail
  refine agen_calls1 (w := w) (b1 := w.heap.size) (x1 := .cells (msc m) 38 (0, 0)) (by (repeat' (first | with_reducible exact Chg.refl _ _ | with_reducible assumption | with_reducible refine Chg.drew ?_ | with_reducible refine Chg.drewN ?_ _ | with_reducible refine Chg.alloc ?_ _ | with_reducible refine Chg.putRow ?_ _ _ _ (.inr ?_) | with_reducible refine Chg.setCell ?_ _ _ _ (.inr ?_)  | (show _ ≤ _; first | exact Nat.le_refl _ | omega | (simp; done))))) (by simp [*]) fun w1 C1 rM => ?_
  have oM := old rM
  refine (gmgood_at m _ g3 w1 (hT.1.keep (H.out.1.1.trans C1) (by simp))).mono ?_
  rintro e w3 ⟨rfl, c3⟩
  replace rM := c3.keep rM List.not_mem_nil
  have C3 := C1.trans c3
  replace H := Lib.hid (H.out.keep C3)
  replace CW := Lib.hid (weak2 (a := a) (b := b) C3)
  have nM := H.out.new2 (k := w.heap.size)
  clear C1 c3 C3 oM nM
  have rG := H.out.2.1
  have oM := old rM
  go_upto_region 3 with (go_at_call 149; refine (gtells_at _ _ g4 _).mono ?_; rintro e w' ⟨rfl, rfl⟩)
  go_cut [6, 7] (fun p q wx => ∃ pX, p = .pointer (some ⟨pX, 0, none⟩) ∧ q = .bool (dropVal s.1 m.li) ∧ wx.heap[pX]? = some (.cells (slc x) 54 (0, 0)) ∧ Chg [] w3 wx ∧ w3.heap.size ≤ pX)
  case first =>
    go_region_held3 (fun w' => w'.heap[g]? = some (.cells #[.pointer (some ⟨a, 0, none⟩)] 206 (0, 0)) ∧ w'.heap[w.heap.size]? = some (.cells (msc m) 38 (0, 0))) (exact ⟨Chg.keep (l := []) (w := w3) (by (repeat' (first | with_reducible exact cO | with_reducible exact Chg.refl _ _ | with_reducible refine Chg.alloc ?_ _ | with_reducible refine Chg.drew ?_ | with_reducible refine Chg.putRow ?_ _ _ _ (.inr ?_) | with_reducible exact Chg.size cO | with_reducible exact Nat.le_refl _))) rG (by simp), Chg.keep (l := []) (w := w3) (by (repeat' (first | with_reducible exact cO | with_reducible exact Chg.refl _ _ | with_reducible refine Chg.alloc ?_ _ | with_reducible refine Chg.drew ?_ | with_reducible refine Chg.putRow ?_ _ _ _ (.inr ?_) | with_reducible exact Chg.size cO | with_reducible exact Nat.le_refl _))) rM (by simp)⟩)
      (first
        | (go_at_call 130; refine (hf _ (H.out.keep (by first | exact Chg.drew (Chg.refl [] w3) | exact Chg.alloc (Chg.drew (Chg.refl [] w3)) _))).mono ?_; rintro e w4 ⟨rfl, c4⟩; (first | (have cO : Chg [] w3 w4 := Chg.trans (Chg.drew (Chg.refl [] w3)) c4) | (have cO : Chg [] w3 w4 := Chg.trans (Chg.alloc (Chg.drew (Chg.refl [] w3)) _) c4)); (first | (have rZ : w4.heap[w3.heap.size]? = some (.cells (slc sltZ) 54 (0, 0)) := c4.keep (snew_at w3.drew _) List.not_mem_nil) | (have rZ : True := trivial))))
    all_goals
      go_wp2_with fail
      go_meet
      case rel =>
        first
          | exact ⟨_, rfl, rfl, by simp, cO.alloc _, cO.size⟩
          | exact ⟨w3.heap.size, rfl, rfl, sput_row rZ, cO.putRow _ _ _ (.inr (Nat.le_refl _)), Nat.le_refl _⟩
  case rest =>
  obtain ⟨pX, rfl, rfl, rX, c5, lX⟩ := hcut
  have nX := H.out.new2 lX
  generalize hw5 : wc = w5 at *
  clear hw5
  replace rM := c5.keep rM List.not_mem_nil
  have nM : w.heap.size ∉ [a, b] := HN.out
  replace H := Lib.hid (H.out.keep c5)
  replace CW := Lib.hid (CW.out.trans (weak2 c5))
  clear c5
  have rG := H.out.2.1
  have oM := old rM
  have oX := old rX
  have nG := H.out.2.2.2.1
  obtain ⟨Kd, hKd, hKd2⟩ : ∃ K : Nat, K < 15 ∧ m.kd = K := by simp [tellsB] at g4; exact ⟨m.kd.toNat, by omega, by omega⟩
  obtain ⟨Ks, hKs, hKs2⟩ : ∃ K : Nat, K < 10 ∧ x.st = K := ⟨x.st.toNat, by omega, by omega⟩
  have hcell := tb_cell Kd Ks hKd hKs
  rw [← hKd2, ← hKs2, ← hnx] at hcell
  clear hnx
  obtain ⟨tT, fT, rT⟩ := hT.2.keep H.out.1.1 (by simp)
  have k1 : (Kd : Int) < 15 := by omega
  have k2 : (Ks : Int) < 10 := by omega
  have k3 : (0 : Int) ≤ (Kd : Int) := by omega
  have k4 : (0 : Int) ≤ (Ks : Int) := by omega
  go_wp2_with fail
  go_quiet (fail)
  go_wp2_with fail
  go_ret2
  exact AgRet.nil (f := fun v => .tuple #[v, .int .i64 16]) (H.out.keep (Chg.drewN (Chg.refl [] w5) _)) (CW.out.trans (Chg.drewN (Chg.refl [a, b] w5) _))
set_option maxHeartbeats 4000000 in
theorem ghear_10 {W : World} {g a b S N : Nat} {s : Sta} (m : Ms) (g3 : mg m = true) (g4 : tellsB m.kd = true) (nx : Int) (hnx : nx = tb m.kd (findVal s.1 m.li).st) (n10 : nx = 10) (w : World) (h : Agt W w g a b S N s) (hu : s.2 ≤ 1000000000) (hT : Tabs W) : Calls Tryz.prog 93 #[.pointer (some ⟨g, 0, none⟩), .agg (msc m)] w (AgRet W w g a b S N (hearF S N s m).1 (fun v => .tuple #[v, .int .i64 (hearF S N s m).2.2]) (hearF S N s m).2.1) := by
  have H := Lib.hid h
  have rG := h.2.1
  have CW := Lib.hid (Chg.refl [a, b] w)
  clear h
  have HN := Lib.hid (H.out.new2 (k := w.heap.size) (Nat.le_refl _))
  have hf := fun W' hW => gfind_any (w := W') (s := s) (W := W) (g := g) (a := a) (b := b) (S := S) (N := N) hW m.li
  have hsa := find_sane H.out.sane m.li
  have hg : (mg m && tellsB m.kd) = true := by simp [g3, g4]
  have n0 : ¬ nx = 0 := by omega
  rw [show hearF S N s m = (hearX S N s m nx, (answersL m.kd (findVal s.1 m.li) nx, 0)) by unfold hearF; rw [if_pos hg, ← hnx, if_neg n0]]
  have n0' : (nx == 0) = false := by simp [n0]
  have n1' : (nx == 10) = true := by simp [n10]
  rw [show hearX S N s m nx = dropS s m.li by unfold hearX; rw [if_pos n10]]
  clear hg n0 n10
  generalize findVal s.1 m.li = x at hf hnx hsa
  go_enter Tryz.func93, Tryz.ntmps93
  try dsimp only [List.append]
  go_wp2_with fail
  refine agen_calls1 (w := w) (b1 := w.heap.size) (x1 := .cells (msc m) 38 (0, 0)) (by (repeat' (first | with_reducible exact Chg.refl _ _ | with_reducible assumption | with_reducible refine Chg.drew ?_ | with_reducible refine Chg.drewN ?_ _ | with_reducible refine Chg.alloc ?_ _ | with_reducible refine Chg.putRow ?_ _ _ _ (.inr ?_) | with_reducible refine Chg.setCell ?_ _ _ _ (.inr ?_)  | (show _ ≤ _; first | exact Nat.le_refl _ | omega | (simp; done))))) (by simp [*]) fun w1 C1 rM => ?_
  have oM := old rM
  refine (gmgood_at m _ g3 w1 (hT.1.keep (H.out.1.1.trans C1) (by simp))).mono ?_
  rintro e w3 ⟨rfl, c3⟩
  replace rM := c3.keep rM List.not_mem_nil
  have C3 := C1.trans c3
  replace H := Lib.hid (H.out.keep C3)
  replace CW := Lib.hid (weak2 (a := a) (b := b) C3)
  have nM := H.out.new2 (k := w.heap.size)
  clear C1 c3 C3 oM nM
  have rG := H.out.2.1
  have oM := old rM
  go_upto_region 3 with (go_at_call 149; refine (gtells_at _ _ g4 _).mono ?_; rintro e w' ⟨rfl, rfl⟩)
  go_cut [6, 7] (fun p q wx => ∃ pX, p = .pointer (some ⟨pX, 0, none⟩) ∧ q = .bool (dropVal s.1 m.li) ∧ wx.heap[pX]? = some (.cells (slc x) 54 (0, 0)) ∧ Chg [] w3 wx ∧ w3.heap.size ≤ pX)
  case first =>
    go_region_held3 (fun w' => w'.heap[g]? = some (.cells #[.pointer (some ⟨a, 0, none⟩)] 206 (0, 0)) ∧ w'.heap[w.heap.size]? = some (.cells (msc m) 38 (0, 0))) (exact ⟨Chg.keep (l := []) (w := w3) (by (repeat' (first | with_reducible exact cO | with_reducible exact Chg.refl _ _ | with_reducible refine Chg.alloc ?_ _ | with_reducible refine Chg.drew ?_ | with_reducible refine Chg.putRow ?_ _ _ _ (.inr ?_) | with_reducible exact Chg.size cO | with_reducible exact Nat.le_refl _))) rG (by simp), Chg.keep (l := []) (w := w3) (by (repeat' (first | with_reducible exact cO | with_reducible exact Chg.refl _ _ | with_reducible refine Chg.alloc ?_ _ | with_reducible refine Chg.drew ?_ | with_reducible refine Chg.putRow ?_ _ _ _ (.inr ?_) | with_reducible exact Chg.size cO | with_reducible exact Nat.le_refl _))) rM (by simp)⟩)
      (first
        | (go_at_call 130; refine (hf _ (H.out.keep (by first | exact Chg.drew (Chg.refl [] w3) | exact Chg.alloc (Chg.drew (Chg.refl [] w3)) _))).mono ?_; rintro e w4 ⟨rfl, c4⟩; (first | (have cO : Chg [] w3 w4 := Chg.trans (Chg.drew (Chg.refl [] w3)) c4) | (have cO : Chg [] w3 w4 := Chg.trans (Chg.alloc (Chg.drew (Chg.refl [] w3)) _) c4)); (first | (have rZ : w4.heap[w3.heap.size]? = some (.cells (slc sltZ) 54 (0, 0)) := c4.keep (snew_at w3.drew _) List.not_mem_nil) | (have rZ : True := trivial))))
    all_goals
      go_wp2_with fail
      go_meet
      case rel =>
        first
          | exact ⟨_, rfl, rfl, by simp, cO.alloc _, cO.size⟩
          | exact ⟨w3.heap.size, rfl, rfl, sput_row rZ, cO.putRow _ _ _ (.inr (Nat.le_refl _)), Nat.le_refl _⟩
  case rest =>
  obtain ⟨pX, rfl, rfl, rX, c5, lX⟩ := hcut
  have nX := H.out.new2 lX
  generalize hw5 : wc = w5 at *
  clear hw5
  replace rM := c5.keep rM List.not_mem_nil
  have nM : w.heap.size ∉ [a, b] := HN.out
  replace H := Lib.hid (H.out.keep c5)
  replace CW := Lib.hid (CW.out.trans (weak2 c5))
  clear c5
  have rG := H.out.2.1
  have oM := old rM
  have oX := old rX
  have nG := H.out.2.2.2.1
  obtain ⟨Kd, hKd, hKd2⟩ : ∃ K : Nat, K < 15 ∧ m.kd = K := by simp [tellsB] at g4; exact ⟨m.kd.toNat, by omega, by omega⟩
  obtain ⟨Ks, hKs, hKs2⟩ : ∃ K : Nat, K < 10 ∧ x.st = K := ⟨x.st.toNat, by omega, by omega⟩
  have hcell := tb_cell Kd Ks hKd hKs
  rw [← hKd2, ← hKs2, ← hnx] at hcell
  clear hnx
  obtain ⟨tT, fT, rT⟩ := hT.2.keep H.out.1.1 (by simp)
  have k1 : (Kd : Int) < 15 := by omega
  have k2 : (Ks : Int) < 10 := by omega
  have k3 : (0 : Int) ≤ (Kd : Int) := by omega
  have k4 : (0 : Int) ≤ (Ks : Int) := by omega
  go_wp2_with fail
  go_quiet (fail)
  clear hKd2 hKs2
  have cD : Chg [] w5 (w5.drewN nq) := Chg.drewN (Chg.refl [] w5) nq
  generalize w5.drewN nq = w6 at cD ⊢
  replace H := Lib.hid (H.out.keep cD)
  replace CW := Lib.hid (CW.out.trans (weak2 cD))
  replace rM := cD.keep rM List.not_mem_nil
  replace rX := cD.keep rX List.not_mem_nil
  clear cD
  have rG := H.out.2.1
  have oM := old rM
  have oX := old rX
  clear rT
  go_wp2_with fail
  go_region_held3 (fun w' => w'.heap[g]? = some (.cells #[.pointer (some ⟨a, 0, none⟩)] 206 (0, 0)) ∧ w'.heap[w.heap.size]? = some (.cells (msc m) 38 (0, 0)) ∧ w'.heap[pX]? = some (.cells (slc x) 54 (0, 0))) (first | exact ⟨rG, rM, rX⟩ | exact ⟨c8.keep rG List.not_mem_nil, c8.keep rM List.not_mem_nil, c8.keep rX List.not_mem_nil⟩ | exact ⟨c4.keep rG nG, c4.keep rM nM, c4.keep rX nX⟩ | exact ⟨c4.keep (c8.keep rG List.not_mem_nil) nG, c4.keep (c8.keep rM List.not_mem_nil) nM, c4.keep (c8.keep rX List.not_mem_nil) nX⟩)
    (first
      | (go_at_call 150; refine (gdrop_any (H.out.keep (Chg.drew (Chg.refl [] w6))) m.li).mono ?_; rintro e w4 ⟨rfl, h4, c4⟩))
  all_goals
    have cT := Chg.trans (Chg.drew (Chg.refl [a, b] w6)) c4
    replace H := Lib.hid h4
    replace CW := Lib.hid (CW.out.trans cT)
    replace rX := cT.keep rX nX
    replace rM := cT.keep rM nM
    clear h4 c4 rG cT
    have rG := H.out.2.1
    go_wp2_with fail
    refine (ganswers_any _ x nx _).mono ?_
    rintro e w9 ⟨A, n, rfl, h1, c9⟩
    go_wp2_with fail
    go_ret2
    exact AgRet.ms (f := fun v => .tuple #[v, .int .i64 0]) H.out CW.out h1 c9
set_option maxHeartbeats 4000000 in
theorem ghear_11 {W : World} {g a b S N : Nat} {s : Sta} (m : Ms) (g3 : mg m = true) (g4 : tellsB m.kd = true) (nx : Int) (hnx : nx = tb m.kd (findVal s.1 m.li).st) (n11 : nx = 11) (w : World) (h : Agt W w g a b S N s) (hu : s.2 ≤ 1000000000) (hT : Tabs W) : Calls Tryz.prog 93 #[.pointer (some ⟨g, 0, none⟩), .agg (msc m)] w (AgRet W w g a b S N (hearF S N s m).1 (fun v => .tuple #[v, .int .i64 (hearF S N s m).2.2]) (hearF S N s m).2.1) := by
  have H := Lib.hid h
  have rG := h.2.1
  have CW := Lib.hid (Chg.refl [a, b] w)
  clear h
  have HN := Lib.hid (H.out.new2 (k := w.heap.size) (Nat.le_refl _))
  have hf := fun W' hW => gfind_any (w := W') (s := s) (W := W) (g := g) (a := a) (b := b) (S := S) (N := N) hW m.li
  have hsa := find_sane H.out.sane m.li
  have hg : (mg m && tellsB m.kd) = true := by simp [g3, g4]
  have n0 : ¬ nx = 0 := by omega
  rw [show hearF S N s m = (hearX S N s m nx, (answersL m.kd (findVal s.1 m.li) nx, 0)) by unfold hearF; rw [if_pos hg, ← hnx, if_neg n0]]
  have n0' : (nx == 0) = false := by simp [n0]
  have n1' : (nx == 10) = false := by simp; omega
  have n2' : (nx == 11) = true := by simp [n11]
  rw [show hearX S N s m nx = s by unfold hearX; rw [if_neg (by omega), if_pos n11]]
  clear hg n0 n11
  generalize findVal s.1 m.li = x at hf hnx hsa
  go_enter Tryz.func93, Tryz.ntmps93
  try dsimp only [List.append]
  go_wp2_with fail
  refine agen_calls1 (w := w) (b1 := w.heap.size) (x1 := .cells (msc m) 38 (0, 0)) (by (repeat' (first | with_reducible exact Chg.refl _ _ | with_reducible assumption | with_reducible refine Chg.drew ?_ | with_reducible refine Chg.drewN ?_ _ | with_reducible refine Chg.alloc ?_ _ | with_reducible refine Chg.putRow ?_ _ _ _ (.inr ?_) | with_reducible refine Chg.setCell ?_ _ _ _ (.inr ?_)  | (show _ ≤ _; first | exact Nat.le_refl _ | omega | (simp; done))))) (by simp [*]) fun w1 C1 rM => ?_
  have oM := old rM
  refine (gmgood_at m _ g3 w1 (hT.1.keep (H.out.1.1.trans C1) (by simp))).mono ?_
  rintro e w3 ⟨rfl, c3⟩
  replace rM := c3.keep rM List.not_mem_nil
  have C3 := C1.trans c3
  replace H := Lib.hid (H.out.keep C3)
  replace CW := Lib.hid (weak2 (a := a) (b := b) C3)
  have nM := H.out.new2 (k := w.heap.size)
  clear C1 c3 C3 oM nM
  have rG := H.out.2.1
  have oM := old rM
  go_upto_region 3 with (go_at_call 149; refine (gtells_at _ _ g4 _).mono ?_; rintro e w' ⟨rfl, rfl⟩)
  go_cut [6, 7] (fun p q wx => ∃ pX, p = .pointer (some ⟨pX, 0, none⟩) ∧ q = .bool (dropVal s.1 m.li) ∧ wx.heap[pX]? = some (.cells (slc x) 54 (0, 0)) ∧ Chg [] w3 wx ∧ w3.heap.size ≤ pX)
  case first =>
    go_region_held3 (fun w' => w'.heap[g]? = some (.cells #[.pointer (some ⟨a, 0, none⟩)] 206 (0, 0)) ∧ w'.heap[w.heap.size]? = some (.cells (msc m) 38 (0, 0))) (exact ⟨Chg.keep (l := []) (w := w3) (by (repeat' (first | with_reducible exact cO | with_reducible exact Chg.refl _ _ | with_reducible refine Chg.alloc ?_ _ | with_reducible refine Chg.drew ?_ | with_reducible refine Chg.putRow ?_ _ _ _ (.inr ?_) | with_reducible exact Chg.size cO | with_reducible exact Nat.le_refl _))) rG (by simp), Chg.keep (l := []) (w := w3) (by (repeat' (first | with_reducible exact cO | with_reducible exact Chg.refl _ _ | with_reducible refine Chg.alloc ?_ _ | with_reducible refine Chg.drew ?_ | with_reducible refine Chg.putRow ?_ _ _ _ (.inr ?_) | with_reducible exact Chg.size cO | with_reducible exact Nat.le_refl _))) rM (by simp)⟩)
      (first
        | (go_at_call 130; refine (hf _ (H.out.keep (by first | exact Chg.drew (Chg.refl [] w3) | exact Chg.alloc (Chg.drew (Chg.refl [] w3)) _))).mono ?_; rintro e w4 ⟨rfl, c4⟩; (first | (have cO : Chg [] w3 w4 := Chg.trans (Chg.drew (Chg.refl [] w3)) c4) | (have cO : Chg [] w3 w4 := Chg.trans (Chg.alloc (Chg.drew (Chg.refl [] w3)) _) c4)); (first | (have rZ : w4.heap[w3.heap.size]? = some (.cells (slc sltZ) 54 (0, 0)) := c4.keep (snew_at w3.drew _) List.not_mem_nil) | (have rZ : True := trivial))))
    all_goals
      go_wp2_with fail
      go_meet
      case rel =>
        first
          | exact ⟨_, rfl, rfl, by simp, cO.alloc _, cO.size⟩
          | exact ⟨w3.heap.size, rfl, rfl, sput_row rZ, cO.putRow _ _ _ (.inr (Nat.le_refl _)), Nat.le_refl _⟩
  case rest =>
  obtain ⟨pX, rfl, rfl, rX, c5, lX⟩ := hcut
  have nX := H.out.new2 lX
  generalize hw5 : wc = w5 at *
  clear hw5
  replace rM := c5.keep rM List.not_mem_nil
  have nM : w.heap.size ∉ [a, b] := HN.out
  replace H := Lib.hid (H.out.keep c5)
  replace CW := Lib.hid (CW.out.trans (weak2 c5))
  clear c5
  have rG := H.out.2.1
  have oM := old rM
  have oX := old rX
  have nG := H.out.2.2.2.1
  obtain ⟨Kd, hKd, hKd2⟩ : ∃ K : Nat, K < 15 ∧ m.kd = K := by simp [tellsB] at g4; exact ⟨m.kd.toNat, by omega, by omega⟩
  obtain ⟨Ks, hKs, hKs2⟩ : ∃ K : Nat, K < 10 ∧ x.st = K := ⟨x.st.toNat, by omega, by omega⟩
  have hcell := tb_cell Kd Ks hKd hKs
  rw [← hKd2, ← hKs2, ← hnx] at hcell
  clear hnx
  obtain ⟨tT, fT, rT⟩ := hT.2.keep H.out.1.1 (by simp)
  have k1 : (Kd : Int) < 15 := by omega
  have k2 : (Ks : Int) < 10 := by omega
  have k3 : (0 : Int) ≤ (Kd : Int) := by omega
  have k4 : (0 : Int) ≤ (Ks : Int) := by omega
  go_wp2_with fail
  go_quiet (fail)
  clear hKd2 hKs2
  have cD : Chg [] w5 (w5.drewN nq) := Chg.drewN (Chg.refl [] w5) nq
  generalize w5.drewN nq = w6 at cD ⊢
  replace H := Lib.hid (H.out.keep cD)
  replace CW := Lib.hid (CW.out.trans (weak2 cD))
  replace rM := cD.keep rM List.not_mem_nil
  replace rX := cD.keep rX List.not_mem_nil
  clear cD
  have rG := H.out.2.1
  have oM := old rM
  have oX := old rX
  clear rT
  go_wp2_with fail
  refine (ganswers_any _ x nx _).mono ?_
  rintro e w9 ⟨A, n, rfl, h1, c9⟩
  go_wp2_with fail
  go_ret2
  exact AgRet.ms (f := fun v => .tuple #[v, .int .i64 0]) H.out CW.out h1 c9
set_option maxHeartbeats 4000000 in
theorem ghear_s {W : World} {g a b S N : Nat} {s : Sta} (m : Ms) (g3 : mg m = true) (g4 : tellsB m.kd = true) (nx : Int) (hnx : nx = tb m.kd (findVal s.1 m.li).st) (n0 : ¬ nx = 0) (n10 : ¬ nx = 10) (n11 : ¬ nx = 11) (w : World) (h : Agt W w g a b S N s) (hu : s.2 ≤ 1000000000) (hT : Tabs W) : Calls Tryz.prog 93 #[.pointer (some ⟨g, 0, none⟩), .agg (msc m)] w (AgRet W w g a b S N (hearF S N s m).1 (fun v => .tuple #[v, .int .i64 (hearF S N s m).2.2]) (hearF S N s m).2.1) := by
  have H := Lib.hid h
  have rG := h.2.1
  have CW := Lib.hid (Chg.refl [a, b] w)
  clear h
  have HN := Lib.hid (H.out.new2 (k := w.heap.size) (Nat.le_refl _))
  have hf := fun W' hW => gfind_any (w := W') (s := s) (W := W) (g := g) (a := a) (b := b) (S := S) (N := N) hW m.li
  have hsa := find_sane H.out.sane m.li
  have hg : (mg m && tellsB m.kd) = true := by simp [g3, g4]
  rw [show hearF S N s m = (hearX S N s m nx, (answersL m.kd (findVal s.1 m.li) nx, 0)) by unfold hearF; rw [if_pos hg, ← hnx, if_neg n0]]
  have n0' : (nx == 0) = false := by simp [n0]
  have n1' : (nx == 10) = false := by simp [n10]
  have n2' : (nx == 11) = false := by simp [n11]
  have e1 : hearX S N s m nx = setS S N s m.li nx (wordsL m (findVal s.1 m.li) nx) (wordsL_len _ _ _) := by unfold hearX; rw [if_neg n10, if_neg n11]
  rw [e1]
  clear e1 hg n0 n10 n11
  generalize findVal s.1 m.li = x at hf hnx hsa
  go_enter Tryz.func93, Tryz.ntmps93
  try dsimp only [List.append]
  go_wp2_with fail
  refine agen_calls1 (w := w) (b1 := w.heap.size) (x1 := .cells (msc m) 38 (0, 0)) (by (repeat' (first | with_reducible exact Chg.refl _ _ | with_reducible assumption | with_reducible refine Chg.drew ?_ | with_reducible refine Chg.drewN ?_ _ | with_reducible refine Chg.alloc ?_ _ | with_reducible refine Chg.putRow ?_ _ _ _ (.inr ?_) | with_reducible refine Chg.setCell ?_ _ _ _ (.inr ?_)  | (show _ ≤ _; first | exact Nat.le_refl _ | omega | (simp; done))))) (by simp [*]) fun w1 C1 rM => ?_
  have oM := old rM
  refine (gmgood_at m _ g3 w1 (hT.1.keep (H.out.1.1.trans C1) (by simp))).mono ?_
  rintro e w3 ⟨rfl, c3⟩
  replace rM := c3.keep rM List.not_mem_nil
  have C3 := C1.trans c3
  replace H := Lib.hid (H.out.keep C3)
  replace CW := Lib.hid (weak2 (a := a) (b := b) C3)
  have nM := H.out.new2 (k := w.heap.size)
  clear C1 c3 C3 oM nM
  have rG := H.out.2.1
  have oM := old rM
  go_upto_region 3 with (go_at_call 149; refine (gtells_at _ _ g4 _).mono ?_; rintro e w' ⟨rfl, rfl⟩)
  go_cut [6, 7] (fun p q wx => ∃ pX, p = .pointer (some ⟨pX, 0, none⟩) ∧ q = .bool (dropVal s.1 m.li) ∧ wx.heap[pX]? = some (.cells (slc x) 54 (0, 0)) ∧ Chg [] w3 wx ∧ w3.heap.size ≤ pX)
  case first =>
    go_region_held3 (fun w' => w'.heap[g]? = some (.cells #[.pointer (some ⟨a, 0, none⟩)] 206 (0, 0)) ∧ w'.heap[w.heap.size]? = some (.cells (msc m) 38 (0, 0))) (exact ⟨Chg.keep (l := []) (w := w3) (by (repeat' (first | with_reducible exact cO | with_reducible exact Chg.refl _ _ | with_reducible refine Chg.alloc ?_ _ | with_reducible refine Chg.drew ?_ | with_reducible refine Chg.putRow ?_ _ _ _ (.inr ?_) | with_reducible exact Chg.size cO | with_reducible exact Nat.le_refl _))) rG (by simp), Chg.keep (l := []) (w := w3) (by (repeat' (first | with_reducible exact cO | with_reducible exact Chg.refl _ _ | with_reducible refine Chg.alloc ?_ _ | with_reducible refine Chg.drew ?_ | with_reducible refine Chg.putRow ?_ _ _ _ (.inr ?_) | with_reducible exact Chg.size cO | with_reducible exact Nat.le_refl _))) rM (by simp)⟩)
      (first
        | (go_at_call 130; refine (hf _ (H.out.keep (by first | exact Chg.drew (Chg.refl [] w3) | exact Chg.alloc (Chg.drew (Chg.refl [] w3)) _))).mono ?_; rintro e w4 ⟨rfl, c4⟩; (first | (have cO : Chg [] w3 w4 := Chg.trans (Chg.drew (Chg.refl [] w3)) c4) | (have cO : Chg [] w3 w4 := Chg.trans (Chg.alloc (Chg.drew (Chg.refl [] w3)) _) c4)); (first | (have rZ : w4.heap[w3.heap.size]? = some (.cells (slc sltZ) 54 (0, 0)) := c4.keep (snew_at w3.drew _) List.not_mem_nil) | (have rZ : True := trivial))))
    all_goals
      go_wp2_with fail
      go_meet
      case rel =>
        first
          | exact ⟨_, rfl, rfl, by simp, cO.alloc _, cO.size⟩
          | exact ⟨w3.heap.size, rfl, rfl, sput_row rZ, cO.putRow _ _ _ (.inr (Nat.le_refl _)), Nat.le_refl _⟩
  case rest =>
  obtain ⟨pX, rfl, rfl, rX, c5, lX⟩ := hcut
  have nX := H.out.new2 lX
  generalize hw5 : wc = w5 at *
  clear hw5
  replace rM := c5.keep rM List.not_mem_nil
  have nM : w.heap.size ∉ [a, b] := HN.out
  replace H := Lib.hid (H.out.keep c5)
  replace CW := Lib.hid (CW.out.trans (weak2 c5))
  clear c5
  have rG := H.out.2.1
  have oM := old rM
  have oX := old rX
  have nG := H.out.2.2.2.1
  obtain ⟨Kd, hKd, hKd2⟩ : ∃ K : Nat, K < 15 ∧ m.kd = K := by simp [tellsB] at g4; exact ⟨m.kd.toNat, by omega, by omega⟩
  obtain ⟨Ks, hKs, hKs2⟩ : ∃ K : Nat, K < 10 ∧ x.st = K := ⟨x.st.toNat, by omega, by omega⟩
  have hcell := tb_cell Kd Ks hKd hKs
  rw [← hKd2, ← hKs2, ← hnx] at hcell
  clear hnx
  obtain ⟨tT, fT, rT⟩ := hT.2.keep H.out.1.1 (by simp)
  have k1 : (Kd : Int) < 15 := by omega
  have k2 : (Ks : Int) < 10 := by omega
  have k3 : (0 : Int) ≤ (Kd : Int) := by omega
  have k4 : (0 : Int) ≤ (Ks : Int) := by omega
  go_wp2_with fail
  go_quiet (fail)
  clear hKd2 hKs2
  have cD : Chg [] w5 (w5.drewN nq) := Chg.drewN (Chg.refl [] w5) nq
  generalize w5.drewN nq = w6 at cD ⊢
  replace H := Lib.hid (H.out.keep cD)
  replace CW := Lib.hid (CW.out.trans (weak2 cD))
  replace rM := cD.keep rM List.not_mem_nil
  replace rX := cD.keep rX List.not_mem_nil
  clear cD
  have rG := H.out.2.1
  have oM := old rM
  have oX := old rX
  clear rT
  go_wp2_with fail
  go_region_held3 (fun w' => w'.heap[g]? = some (.cells #[.pointer (some ⟨a, 0, none⟩)] 206 (0, 0)) ∧ w'.heap[w.heap.size]? = some (.cells (msc m) 38 (0, 0)) ∧ w'.heap[pX]? = some (.cells (slc x) 54 (0, 0))) (first | exact ⟨rG, rM, rX⟩ | exact ⟨c8.keep rG List.not_mem_nil, c8.keep rM List.not_mem_nil, c8.keep rX List.not_mem_nil⟩ | exact ⟨c4.keep rG nG, c4.keep rM nM, c4.keep rX nX⟩ | exact ⟨c4.keep (c8.keep rG List.not_mem_nil) nG, c4.keep (c8.keep rM List.not_mem_nil) nM, c4.keep (c8.keep rX List.not_mem_nil) nX⟩)
    (first
      | (go_at_call 151; refine (gwords_any m x nx _).mono ?_; rintro e w8 ⟨rfl, c8⟩)
      | (go_at_call 140; refine (gset_any (H.out.keep (Chg.trans (Chg.drew (Chg.refl [] w6)) c8)) hu m.li nx _ (wordsL_len m x nx)).mono ?_; rintro e w4 ⟨rfl, h4, c4⟩))
  all_goals
    have cT := Chg.trans (weak2 (Chg.trans (Chg.drew (Chg.refl [] w6)) c8)) c4
    replace H := Lib.hid h4
    replace CW := Lib.hid (CW.out.trans cT)
    replace rX := cT.keep rX nX
    replace rM := cT.keep rM nM
    clear h4 c4 rG cT
    have rG := H.out.2.1
    go_wp2_with fail
    refine (ganswers_any _ x nx _).mono ?_
    rintro e w9 ⟨A, n, rfl, h1, c9⟩
    go_wp2_with fail
    go_ret2
    exact AgRet.ms (f := fun v => .tuple #[v, .int .i64 0]) H.out CW.out h1 c9
theorem ghear_any {W : World} {g a b S N : Nat} {s : Sta} (m : Ms) (w : World) (h : Agt W w g a b S N s) (hu : s.2 ≤ 1000000000) (hT : Tabs W) : Calls Tryz.prog 93 #[.pointer (some ⟨g, 0, none⟩), .agg (msc m)] w (AgRet W w g a b S N (hearF S N s m).1 (fun v => .tuple #[v, .int .i64 (hearF S N s m).2.2]) (hearF S N s m).2.1) := by
  cases gg : (mg m && tellsB m.kd)
  · exact ghear_args m gg w h hu hT
  · have g' := gg
    rw [Bool.and_eq_true] at g'
    by_cases n0 : tb m.kd (findVal s.1 m.li).st = 0
    · exact ghear_0 m g'.1 g'.2 _ rfl n0 w h hu hT
    by_cases n10 : tb m.kd (findVal s.1 m.li).st = 10
    · exact ghear_10 m g'.1 g'.2 _ rfl n10 w h hu hT
    by_cases n11 : tb m.kd (findVal s.1 m.li).st = 11
    · exact ghear_11 m g'.1 g'.2 _ rfl n11 w h hu hT
    · exact ghear_s m g'.1 g'.2 _ rfl n0 n10 n11 w h hu hT
end Go.Proofs.YtadeoflkppiflaaGreatDoor
end
section
namespace Go.Proofs.YtadeoflkppiflaaGreatDoor
open Go.RowKit
set_option linter.unusedVariables false
set_option maxHeartbeats 1000000
attribute [local go_sem ↓] append_appS copy_copS clear_clrS make_mkS cell_row frozen_row loadLine storeLine loadSlot storeSlot heap_drew heap_drewN heap_alloc heap_past heap_setCell heap_putRow vs_get slc_st slc_li slc_us slice_slS loadMsg storeMsg loadHas storeHas msc_kd msc_li msc_di msc_ke
attribute [local go_sem] rowCell_some rowFrozen_some rowHas_some rowIn_some rowPart_full rowPart_lit rowPut_full rowPut_lit rowSet_some size_putRow vs_size vs_one wideLine wideSlot run_loadS run_storeS run_appS run_copS run_clrS run_mkS loadW_at storeW_at fit_all fit_le one_int one_bool one_pointer one_slice allOne_list putRow_new ne_size1 ne_size2 ne_size3 ne_size4 zero8_length lines_nil line_eq lit8 slc_size slc_one slc_part slc_in fold_slt fold_slc slc_set_us wideMsg wideHas run_slS msc_size msc_one msc_part msc_in fold_msc msc_putDi msc_putKe msc_putX msc_has ms4_lit ms4_k ms4_l ms4_e
attribute [local simp ↓] heap_drew heap_drewN heap_alloc heap_past heap_setCell heap_putRow
attribute [local simp] rowCell_some rowFrozen_some rowHas_some rowIn_some rowPart_full rowPart_lit rowPut_full rowPut_lit rowSet_some size_putRow vs_size fit_all putRow_new ne_size1 ne_size2 ne_size3 ne_size4 zero8_length slc_size msc_size msc_putDi msc_putKe msc_putX msc_has fit_le ms4_k ms4_l ms4_e


/-! ### What was told, kept -/
def Tol (a b : Nat) (w : World) (A : Option Addr) (ms : List Ms) : Prop := Sl w 12 A ms.length (cat Ms.enc ms) ∧ ∀ x, A = some x → x.block ∉ [a, b]
section
variable {a b : Nat} {w w' : World} {A : Option Addr} {ms : List Ms}
theorem Tol.of (h : Told w w' A ms) (ho : ∀ x ∈ [a, b], x < w.heap.size) : Tol a b w' A ms :=
  ⟨h.1, fun x hx hm => by have := h.2 x hx; have := ho _ hm; omega⟩
theorem Tol.keep (h : Tol a b w A ms) (hc : Chg [a, b] w w') : Tol a b w' A ms := ⟨h.1.chg hc h.2, h.2⟩
theorem Tol.keep0 (h : Tol a b w A ms) (hc : Chg [] w w') : Tol a b w' A ms := h.keep (hc.mono (by simp))
/-- A message that was told, cell by cell. -/
theorem Tol.msg (h : Tol a b w A ms) {i : Nat} {m : Ms} (hm : ms[i]? = some m) : ∃ b o cs t f, A = some ⟨b, o, none⟩ ∧ w.heap[b]? = some (.cells cs t f) ∧ cs[o + i * 12]? = some (.int .i64 m.kd) ∧ cs[o + i * 12 + 1]? = some (.int .i64 m.li) ∧ cs[o + i * 12 + 2]? = some (.bool m.di) ∧ cs[o + i * 12 + 3]? = some (.bool m.ke) ∧
    (∀ k : Nat, k < 8 → cs[o + i * 12 + 4 + k]? = some (.int .u64 (m.l.getD k 0))) ∧ rowIn (some (.cells cs t f)) (o + i * 12 + 4) 8 = true ∧ rowPart (some (.cells cs t f)) (o + i * 12 + 4) 8 = vs m.l := by
  have hi : i < ms.length := (List.getElem?_eq_some_iff.1 hm).1
  have hm8 := m.h
  obtain ⟨b, o, rfl⟩ := h.1.addr (by omega)
  obtain ⟨cs, t, f, hb, hc, hp⟩ := h.1.elem (by omega) hi (cat_part Ms.len hm)
  refine ⟨b, o, cs, t, f, rfl, hb, ?_, ?_, ?_, ?_, ?_, (hp 4 8 (by omega)).1, ?_⟩
  · have := hc 0 (by omega); rw [Nat.add_zero] at this; rw [this]; rfl
  · rw [hc 1 (by omega)]; rfl
  · rw [hc 2 (by omega)]; rfl
  · rw [hc 3 (by omega)]; rfl
  · intro k hk
    rw [show o + i * 12 + 4 + k = o + i * 12 + (4 + k) by omega, hc (4 + k) (by omega)]
    unfold Ms.enc
    rw [show 4 + k = k + 1 + 1 + 1 + 1 by omega, List.getElem?_cons_succ, List.getElem?_cons_succ, List.getElem?_cons_succ, List.getElem?_cons_succ, List.getElem?_map, List.getD_eq_getElem?_getD, List.getElem?_eq_getElem (by omega)]
    rfl
  · rw [(hp 4 8 (by omega)).2]
    unfold Ms.enc vs
    rw [List.drop_succ_cons, List.drop_succ_cons, List.drop_succ_cons, List.drop_succ_cons, List.drop_zero, List.take_of_length_le (by simp [hm8])]
end
theorem gnew_ok (S N : Nat) (W w : World) (hc : Chg [] W w) (h : goodNew S N) : Calls Tryz.prog 99 #[.int .i64 S, .int .i64 N] w fun e w' => ∃ g a b, e = .returned (.tuple #[.pointer (some ⟨g, 0, none⟩), .int .i64 0]) ∧ Agt W w' g a b S N (List.replicate (S * N) sltZ, 0) ∧ Chg [] w w' := by
  go_enter Tryz.func99, Tryz.ntmps99
  try dsimp only [List.append]
  go_wp2_with fail
  refine (sys_new S N W w hc h).mono ?_
  rintro e w2 ⟨a, b, rfl, hs, c2⟩
  have HS := Lib.hid hs
  have HC := Lib.hid c2
  clear hs c2
  go_wp2_with fail
  go_ret2
  refine ⟨w2.heap.size, a, b, rfl, ⟨HS.out.keep ((Chg.refl [] w2).alloc _), by simp, HS.out.1.size, HS.out.new2 (Nat.le_refl _), Sane.new _, by show (0 : Int) ≤ 0; omega⟩, HC.out.alloc _⟩
end Go.Proofs.YtadeoflkppiflaaGreatDoor
end
section
namespace Go.Proofs.YtadeoflkppiflaaGreatDoor
open Go.RowKit
set_option linter.unusedVariables false
set_option maxHeartbeats 1000000
set_option maxRecDepth 100000
attribute [local go_sem ↓] append_appS copy_copS clear_clrS make_mkS cell_row frozen_row loadLine storeLine loadSlot storeSlot heap_drew heap_drewN heap_alloc heap_past heap_setCell heap_putRow vs_get slc_st slc_li slc_us slice_slS loadMsg storeMsg loadHas storeHas msc_kd msc_li msc_di msc_ke
attribute [local go_sem] rowCell_some rowFrozen_some rowHas_some rowIn_some rowPart_full rowPart_lit rowPut_full rowPut_lit rowSet_some size_putRow vs_size vs_one wideLine wideSlot run_loadS run_storeS run_appS run_copS run_clrS run_mkS loadW_at storeW_at fit_all fit_le one_int one_bool one_pointer one_slice allOne_list putRow_new ne_size1 ne_size2 ne_size3 ne_size4 zero8_length lines_nil line_eq lit8 slc_size slc_one slc_part slc_in fold_slt fold_slc slc_set_us wideMsg wideHas run_slS msc_size msc_one msc_part msc_in fold_msc msc_putDi msc_putKe msc_putX msc_has ms4_lit
attribute [local simp ↓] heap_drew heap_drewN heap_alloc heap_past heap_setCell heap_putRow
attribute [local simp] rowCell_some rowFrozen_some rowHas_some rowIn_some rowPart_full rowPart_lit rowPut_full rowPut_lit rowSet_some size_putRow vs_size fit_all putRow_new ne_size1 ne_size2 ne_size3 ne_size4 zero8_length slc_size msc_size msc_putDi msc_putKe msc_putX msc_has fit_le


/-! ### A core's port: what it has, and where -/
structure Pt where
  s : Sta
  up : List Ms
  an : List Ms
  dn : List Ms
structure Po where
  g : Nat
  a : Nat
  b : Nat
  ub : Nat
  uA : Option Addr
  uc : Nat
  nb : Nat
  nA : Option Addr
  nc : Nat
  db : Nat
  dA : Option Addr
  dc : Nat
def penc (y : Po × Pt) : List Value := [.pointer (some ⟨y.1.g, 0, none⟩), .slice y.1.uA y.2.up.length y.1.uc, .slice none 0 0, .slice y.1.nA y.2.an.length y.1.nc, .slice none 0 0, .slice y.1.dA y.2.dn.length y.1.dc, .slice none 0 0]
theorem penc_len (y : Po × Pt) : (penc y).length = 7 := rfl
/-- A block that is not the sentinel's. -/
def opt (q b : Nat) : List Nat := if b = q then [] else [b]
theorem mem_opt {q b k : Nat} : k ∈ opt q b ↔ k = b ∧ b ≠ q := by
  unfold opt; split <;> simp [*]
def Po.foot (po : Nat) (p : Po) : List Nat := [p.g, p.a, p.b] ++ (opt po p.ub ++ (opt po p.nb ++ opt po p.db))
def PortOk (W w : World) (po S N : Nat) (y : Po × Pt) : Prop :=
  Agt W w y.1.g y.1.a y.1.b S N y.2.s ∧ Vof 12 38 Ms.enc w po y.1.ub y.1.uA y.1.uc y.2.up ∧ Vof 12 38 Ms.enc w po y.1.nb y.1.nA y.1.nc y.2.an ∧ Vof 12 38 Ms.enc w po y.1.db y.1.dA y.1.dc y.2.dn
theorem Vof.keepN {α : Type} {k : Nat} {e : TypeId} {enc : α → List Value} {w w' : World} {q be : Nat} {A : Option Addr} {cap : Nat} {xs : List α} {l : List Nat} (h : Vof k e enc w q be A cap xs) (hc : Chg l w w') (hb : be ≠ q → be ∉ l) : Vof k e enc w' q be A cap xs := by
  by_cases hbq : be = q
  · rcases h with h | ⟨h1, _⟩
    · exact .inl h
    · exact absurd hbq h1
  · exact h.keep hc (hb hbq)
theorem Agt.keepL {W w w' : World} {g a b S N : Nat} {s : Sta} {l : List Nat} (h : Agt W w g a b S N s) (hc : Chg l w w') (hl : ∀ x ∈ l, W.heap.size ≤ x) (hg : g ∉ l) (ha : a ∉ l) (hb : b ∉ l) : Agt W w' g a b S N s :=
  ⟨⟨h.1.1.trans' hc (fun x hx => .inr (hl x hx)), h.1.2.1.keep hc ha hb, h.1.2.2⟩, hc.keep h.2.1 hg, h.2.2⟩
theorem PortOk.keep {W w w' : World} {po S N : Nat} {y : Po × Pt} {l : List Nat} (h : PortOk W w po S N y) (hc : Chg l w w') (hl : ∀ x ∈ l, W.heap.size ≤ x) (hd : ∀ x ∈ y.1.foot po, x ∉ l) : PortOk W w' po S N y := by
  obtain ⟨h1, h2, h3, h4⟩ := h
  have e : ∀ k, (k = y.1.g ∨ k = y.1.a ∨ k = y.1.b ∨ (k = y.1.ub ∧ y.1.ub ≠ po) ∨ (k = y.1.nb ∧ y.1.nb ≠ po) ∨ (k = y.1.db ∧ y.1.db ≠ po)) → k ∉ l := by
    intro k hk
    refine hd k ?_
    unfold Po.foot
    simp only [List.mem_append, List.mem_cons, List.not_mem_nil, or_false, mem_opt]
    rcases hk with h | h | h | h | h | h <;> simp [h]
  exact ⟨h1.keepL hc hl (e _ (by simp)) (e _ (by simp)) (e _ (by simp)), h2.keepN hc (fun hb => e _ (by simp [hb])), h3.keepN hc (fun hb => e _ (by simp [hb])), h4.keepN hc (fun hb => e _ (by simp [hb]))⟩
theorem PortOk.old {W w : World} {po S N : Nat} {y : Po × Pt} (h : PortOk W w po S N y) (hp : Old w po) : ∀ x ∈ y.1.foot po, x < w.heap.size := by
  obtain ⟨h1, h2, h3, h4⟩ := h
  intro x hx
  unfold Po.foot at hx
  simp only [List.mem_append, List.mem_cons, List.not_mem_nil, or_false, mem_opt] at hx
  have a1 := h1.old2
  simp only [List.mem_cons, List.not_mem_nil, or_false, forall_eq_or_imp, forall_eq] at a1
  rcases hx with (h | h | h) | h | h | h
  · rw [h]; exact lt_heap h1.2.1
  · rw [h]; exact a1.1
  · rw [h]; exact a1.2
  · rw [h.1]; exact h2.old hp
  · rw [h.1]; exact h3.old hp
  · rw [h.1]; exact h4.old hp

/-! ### Lists of rows: one row is written -/
theorem cat_set {α : Type} {k : Nat} {enc : α → List Value} (hk : ∀ a, (enc a).length = k) : ∀ (xs : List α) (i : Nat) (a b : α) (o : Nat) (v : Value), xs[i]? = some a → o < k → enc b = (enc a).set o v → cat enc (xs.set i b) = (cat enc xs).set (i * k + o) v
  | [], i, a, b, o, v, h, _, _ => by simp at h
  | x :: xs, 0, a, b, o, v, h, ho, he => by
    simp at h
    subst h
    simp only [List.set_cons_zero, cat_cons, Nat.zero_mul, Nat.zero_add]
    rw [he, List.set_append_left _ _ (by rw [hk]; exact ho)]
  | x :: xs, i + 1, a, b, o, v, h, ho, he => by
    simp only [List.getElem?_cons_succ] at h
    simp only [List.set_cons_succ, cat_cons]
    rw [cat_set hk xs i a b o v h ho he, List.set_append_right _ _ (by rw [hk, Nat.add_mul]; omega)]
    congr 2
    rw [hk, Nat.add_mul]
    omega
theorem sq_put {α : Type} {k : Nat} {enc : α → List Value} (hk : ∀ a, (enc a).length = k) {xs : List α} {i : Nat} {a b : α} {o : Nat} {v : Value} (h : xs[i]? = some a) (ho : o < k) (he : enc b = (enc a).set o v) : (sq enc xs []).setIfInBounds (i * k + o) v = sq enc (xs.set i b) [] := by
  unfold sq
  rw [List.setIfInBounds_toArray, List.append_nil, List.append_nil, cat_set hk xs i a b o v h ho he]
end Go.Proofs.YtadeoflkppiflaaGreatDoor
end
section
namespace Go.Proofs.YtadeoflkppiflaaGreatDoor
open Go.RowKit
set_option linter.unusedVariables false
set_option maxHeartbeats 1000000
set_option maxRecDepth 100000
attribute [local go_sem ↓] append_appS copy_copS clear_clrS make_mkS cell_row frozen_row loadLine storeLine loadSlot storeSlot heap_drew heap_drewN heap_alloc heap_past heap_setCell heap_putRow vs_get slc_st slc_li slc_us slice_slS loadMsg storeMsg loadHas storeHas msc_kd msc_li msc_di msc_ke
attribute [local go_sem] rowCell_some rowFrozen_some rowHas_some rowIn_some rowPart_full rowPart_lit rowPut_full rowPut_lit rowSet_some size_putRow vs_size vs_one wideLine wideSlot run_loadS run_storeS run_appS run_copS run_clrS run_mkS loadW_at storeW_at fit_all fit_le one_int one_bool one_pointer one_slice allOne_list putRow_new ne_size1 ne_size2 ne_size3 ne_size4 zero8_length lines_nil line_eq lit8 slc_size slc_one slc_part slc_in fold_slt fold_slc slc_set_us wideMsg wideHas run_slS msc_size msc_one msc_part msc_in fold_msc msc_putDi msc_putKe msc_putX msc_has ms4_lit
attribute [local simp ↓] heap_drew heap_drewN heap_alloc heap_past heap_setCell heap_putRow
attribute [local simp] rowCell_some rowFrozen_some rowHas_some rowIn_some rowPart_full rowPart_lit rowPut_full rowPut_lit rowSet_some size_putRow vs_size fit_all putRow_new ne_size1 ne_size2 ne_size3 ne_size4 zero8_length slc_size msc_size msc_putDi msc_putKe msc_putX msc_has fit_le


/-- A configuration. -/
structure Cg where
  co : Nat
  li : Nat
  vo : Nat
  se : Nat
  wa : Nat
  qu : Nat
  st : Nat
def Cg.enc (c : Cg) : List Value := [.int .i64 c.co, .int .i64 c.li, .int .i64 c.vo, .int .i64 c.se, .int .i64 c.wa, .int .i64 c.qu, .int .i64 c.st]
/-- Where a system lies; how many steps of each kind were done. -/
structure Lay where
  sy : Nat
  q : Nat
  be : Nat
  g : Nat
  b : Nat
  po : Nat
  en : Nat
  ks : List Int
def Lay.enc (z : Lay) (c : Cg) : List Value := c.enc ++ [.pointer (some ⟨z.q, 0, none⟩), .slice (some ⟨z.po, 0, none⟩) c.co c.co, .slice (some ⟨z.en, 0, none⟩) c.li c.li] ++ z.ks.map (Value.int .u64)
def Lay.base (z : Lay) : List Nat := [z.sy, z.q, z.g, z.b, z.po, z.en] ++ opt z.q z.be
def feet (po : Nat) (L : List (Po × Pt)) : List Nat := (L.map (fun y => y.1.foot po)).flatten
def Lay.all (z : Lay) (L : List (Po × Pt)) : List Nat := z.base ++ feet z.po L
/-- A system's memory, all of it new to W, and apart. -/
structure Msd (W w : World) (c : Cg) (z : Lay) (L : List (Po × Pt)) (en : List En) (es : List Ent) (xs : List Int) : Prop where
  chg : Chg [] W w
  sys : w.heap[z.sy]? = some (.cells (z.enc c).toArray 95 (0, 0))
  six : z.ks.length = 6
  mem : Sys W w z.q z.be z.g z.b c.li c.vo c.qu es xs
  ports : w.heap[z.po]? = some (.cells (sq penc L []) 139 (0, 0))
  cores : L.length = c.co
  ents : w.heap[z.en]? = some (.cells (sq En.enc en []) 56 (0, 0))
  lines : en.length = c.li
  ok : ∀ y ∈ L, PortOk W w z.po c.se c.wa y
  apart : (z.all L).Nodup
  new : ∀ k ∈ z.all L, W.heap.size ≤ k
theorem mem_feet {po : Nat} {L : List (Po × Pt)} {k : Nat} : k ∈ feet po L ↔ ∃ y ∈ L, k ∈ y.1.foot po := by
  unfold feet; simp only [List.mem_flatten, List.mem_map]
  constructor
  · rintro ⟨l, ⟨y, hy, rfl⟩, hk⟩; exact ⟨y, hy, hk⟩
  · rintro ⟨y, hy, hk⟩; exact ⟨_, ⟨y, hy, rfl⟩, hk⟩
section
variable {W w w' : World} {c : Cg} {z : Lay} {L : List (Po × Pt)} {en : List En} {es : List Ent} {xs : List Int} (h : Msd W w c z L en es xs)
include h
theorem Msd.oldp : Old w z.po := Go.Proofs.YtadeoflkppiflaaGreatDoor.old h.ports
theorem Msd.old : ∀ k ∈ z.all L, k < w.heap.size := by
  intro k hk
  unfold Lay.all Lay.base at hk
  simp only [List.mem_append, List.mem_cons, List.not_mem_nil, or_false, mem_opt, mem_feet] at hk
  rcases hk with ((h1 | h1 | h1 | h1 | h1 | h1) | h1) | ⟨y, hy, h1⟩
  · rw [h1]; exact lt_heap h.sys
  · rw [h1]; exact h.mem.2.1.oldq.lt
  · rw [h1]; exact h.mem.2.2.1.oldg
  · rw [h1]; exact h.mem.2.2.1.oldb
  · rw [h1]; exact lt_heap h.ports
  · rw [h1]; exact lt_heap h.ents
  · rw [h1.1]; exact h.mem.2.1.olde.lt
  · exact (h.ok y hy).old h.oldp k h1
/-- A port's blocks are its own. -/
theorem Msd.own {i : Nat} {y : Po × Pt} (hy : L[i]? = some y) : ∀ k ∈ y.1.foot z.po, k ∉ z.base ∧ (∀ j y', L[j]? = some y' → j ≠ i → k ∉ y'.1.foot z.po) ∧ k ∈ z.all L := by
  intro k hk
  have hm : k ∈ feet z.po L := mem_feet.2 ⟨y, List.mem_of_getElem? hy, hk⟩
  have hn := h.apart
  unfold Lay.all at hn ⊢
  rw [List.nodup_append] at hn
  refine ⟨fun hb => hn.2.2 k hb k hm rfl, ?_, List.mem_append_right _ hm⟩
  intro j y' hy' hj hk'
  have hf := hn.2.1
  unfold feet at hf
  unfold List.Nodup at hf
  rw [List.pairwise_flatten] at hf
  have hp := hf.2
  rw [List.pairwise_map] at hp
  rw [List.pairwise_iff_getElem] at hp
  obtain ⟨hi1, hi2⟩ := List.getElem?_eq_some_iff.1 hy
  obtain ⟨hj1, hj2⟩ := List.getElem?_eq_some_iff.1 hy'
  rcases Nat.lt_or_gt_of_ne hj with hlt | hlt
  · have := hp j i hj1 hi1 hlt
    rw [hi2, hj2] at this
    exact this k hk' k hk rfl
  · have := hp i j hi1 hj1 hlt
    rw [hi2, hj2] at this
    exact this k hk k hk' rfl
theorem Msd.nodupB : z.base.Nodup := (List.nodup_append.1 h.apart).1
theorem Msd.foot1 {y : Po × Pt} (hy : y ∈ L) : (y.1.foot z.po).Nodup := by
  have hf := (List.nodup_append.1 h.apart).2.1
  unfold feet List.Nodup at hf
  exact (List.pairwise_flatten.1 hf).1 _ (List.mem_map_of_mem hy)
/-- Nothing of the system was written. -/
theorem Msd.keep (hc : Chg [] w w') : Msd W w' c z L en es xs :=
  ⟨h.chg.trans hc, hc.keep h.sys (by simp), h.six, h.mem.keep hc, hc.keep h.ports (by simp), h.cores, hc.keep h.ents (by simp), h.lines, fun y hy => (h.ok y hy).keep hc (by simp) (by simp), h.apart, h.new⟩
/-- Blocks that are not its own were written. -/
theorem Msd.keepL {l : List Nat} (hc : Chg l w w') (hl : ∀ k ∈ l, k ∉ z.all L) (hw : ∀ k ∈ l, W.heap.size ≤ k) : Msd W w' c z L en es xs := by
  have e : ∀ k ∈ z.all L, k ∉ l := fun k hk hm => hl k hm hk
  have eb : ∀ k ∈ z.base, k ∉ l := fun k hk => e k (List.mem_append_left _ hk)
  have e6 : z.sy ∉ l ∧ z.q ∉ l ∧ z.g ∉ l ∧ z.b ∉ l ∧ z.po ∉ l ∧ z.en ∉ l := by
    refine ⟨eb _ ?_, eb _ ?_, eb _ ?_, eb _ ?_, eb _ ?_, eb _ ?_⟩ <;> simp [Lay.base]
  have e7 : z.be ∉ l := by
    by_cases hb : z.be = z.q
    · rw [hb]; exact e6.2.1
    · exact eb _ (by simp [Lay.base, mem_opt, hb])
  refine ⟨h.chg.trans' hc (fun k hk => .inr (hw k hk)), hc.keep h.sys e6.1, h.six, ⟨h.mem.1.trans' hc (fun k hk => .inr (hw k hk)), h.mem.2.1.keep hc e6.2.1 e7, h.mem.2.2.1.keep hc e6.2.2.1 e6.2.2.2.1, h.mem.2.2.2⟩, hc.keep h.ports e6.2.2.2.2.1, h.cores, hc.keep h.ents e6.2.2.2.2.2, h.lines, ?_, h.apart, h.new⟩
  intro y hy
  refine (h.ok y hy).keep hc hw (fun k hk => e k ?_)
  exact List.mem_append_right _ (mem_feet.2 ⟨y, hy, hk⟩)
end

/-! ### Steps: what follows one another -/
theorem nodup_feet {po : Nat} {L : List (Po × Pt)} (h1 : ∀ y ∈ L, (y.1.foot po).Nodup) (h2 : ∀ (i j : Nat) (y y' : Po × Pt), i ≠ j → L[i]? = some y → L[j]? = some y' → ∀ k ∈ y.1.foot po, k ∉ y'.1.foot po) : (feet po L).Nodup := by
  unfold feet List.Nodup
  rw [List.pairwise_flatten]
  refine ⟨?_, ?_⟩
  · intro l hl
    obtain ⟨y, hy, rfl⟩ := List.mem_map.1 hl
    exact h1 y hy
  · rw [List.pairwise_map, List.pairwise_iff_getElem]
    intro i j hi hj hij k hk k' hk' e
    subst e
    exact h2 i j _ _ (by omega) (List.getElem?_eq_getElem hi) (List.getElem?_eq_getElem hj) k hk hk'
theorem Lay.inB {z : Lay} {L : List (Po × Pt)} {k : Nat} (hk : k ∈ z.base) : k ∈ z.all L := List.mem_append_left _ hk
theorem Lay.beB {z : Lay} {k : Nat} (hk : k = z.sy ∨ k = z.q ∨ k = z.g ∨ k = z.b ∨ k = z.po ∨ k = z.en ∨ k = z.be) : k ∈ z.base := by
  unfold Lay.base
  simp only [List.mem_append, List.mem_cons, List.not_mem_nil, or_false, mem_opt]
  by_cases hb : z.be = z.q
  · rcases hk with h | h | h | h | h | h | h <;> simp [h, hb]
  · rcases hk with h | h | h | h | h | h | h <;> simp [h, hb]
def MTo (W w : World) (c : Cg) (z : Lay) (L : List (Po × Pt)) (z' : Lay) (L' : List (Po × Pt)) (en : List En) (es : List Ent) (xs : List Int) (w' : World) : Prop :=
  Msd W w' c z' L' en es xs ∧ Chg (z.all L) w w' ∧ ∀ k ∈ z'.all L', k ∈ z.all L ∨ w.heap.size ≤ k
theorem MTo.trans {W w w1 w2 : World} {c : Cg} {z z1 z2 : Lay} {L L1 L2 : List (Po × Pt)} {en1 en2 : List En} {es1 es2 : List Ent} {xs1 xs2 : List Int}
    (h1 : MTo W w c z L z1 L1 en1 es1 xs1 w1) (h2 : MTo W w1 c z1 L1 z2 L2 en2 es2 xs2 w2) : MTo W w c z L z2 L2 en2 es2 xs2 w2 := by
  refine ⟨h2.1, h1.2.1.trans' h2.2.1 h1.2.2, fun k hk => ?_⟩
  rcases h2.2.2 k hk with h | h
  · exact h1.2.2 k h
  · exact .inr (Nat.le_trans h1.2.1.size h)
section
variable {W w w' : World} {c : Cg} {z : Lay} {L : List (Po × Pt)} {en : List En} {es : List Ent} {xs : List Int} (h : Msd W w c z L en es xs)
include h
theorem Msd.stay (hc : Chg [] w w') : MTo W w c z L z L en es xs w' := ⟨h.keep hc, hc.mono (by simp), fun k hk => .inl hk⟩
theorem Msd.inW {l : List Nat} (hl : ∀ k ∈ l, k ∈ z.all L) : ∀ k ∈ l, W.heap.size ≤ k := fun k hk => h.new k (hl k hk)
theorem Msd.ne6 : (z.sy ≠ z.q ∧ z.sy ≠ z.g ∧ z.sy ≠ z.b ∧ z.sy ≠ z.po ∧ z.sy ≠ z.en) ∧ (z.q ≠ z.g ∧ z.q ≠ z.b ∧ z.q ≠ z.po ∧ z.q ≠ z.en) ∧ (z.g ≠ z.b ∧ z.g ≠ z.po ∧ z.g ≠ z.en) ∧ (z.b ≠ z.po ∧ z.b ≠ z.en) ∧ z.po ≠ z.en ∧ (z.be ≠ z.sy ∧ z.be ≠ z.g ∧ z.be ≠ z.b ∧ z.be ≠ z.po ∧ z.be ≠ z.en) := by
  have hn := h.nodupB
  unfold Lay.base opt at hn
  by_cases hb : z.be = z.q
  · rw [if_pos hb] at hn
    simp only [List.append_nil, List.nodup_cons, List.mem_cons, List.not_mem_nil, or_false, not_or, List.nodup_nil, and_true, not_false_eq_true] at hn
    rw [hb]
    have := hn.1.1
    have := hn.2.1
    simp_all [Ne.symm]
  · rw [if_neg hb] at hn
    simp only [List.cons_append, List.nil_append, List.nodup_cons, List.mem_cons, List.not_mem_nil, or_false, not_or, List.nodup_nil, and_true, not_false_eq_true] at hn
    simp only [ne_eq]
    refine ⟨⟨?_, ?_, ?_, ?_, ?_⟩, ⟨?_, ?_, ?_, ?_⟩, ⟨?_, ?_, ?_⟩, ⟨?_, ?_⟩, ?_, ?_, ?_, ?_, ?_, ?_⟩ <;> simp_all [eq_comm]
end

theorem sub_new {z : Lay} {L : List (Po × Pt)} {W w : World} {c : Cg} {en : List En} {es : List Ent} {xs : List Int} (h : Msd W w c z L en es xs) {z' : Lay} {L' : List (Po × Pt)} (hs : ∀ k ∈ z'.all L', k ∈ z.all L ∨ w.heap.size ≤ k) : ∀ k ∈ z'.all L', W.heap.size ≤ k := fun k hk => by
  rcases hs k hk with h1 | h1
  · exact h.new k h1
  · exact Nat.le_trans h.chg.size h1
section
variable {W w w' : World} {c : Cg} {z : Lay} {L : List (Po × Pt)} {en : List En} {es : List Ent} {xs : List Int} (h : Msd W w c z L en es xs)
include h
/-- One port's blocks, and its row, were written. -/
theorem Msd.port {i : Nat} {y y' : Po × Pt} (hy : L[i]? = some y) {l : List Nat} (hc : Chg l w w') (hl : ∀ k ∈ l, k = z.po ∨ k ∈ y.1.foot z.po)
    (hp : w'.heap[z.po]? = some (.cells (sq penc (L.set i y') []) 139 (0, 0))) (hok : PortOk W w' z.po c.se c.wa y') (hf : ∀ k ∈ y'.1.foot z.po, k ∈ y.1.foot z.po ∨ w.heap.size ≤ k) (hn : (y'.1.foot z.po).Nodup) :
    MTo W w c z L z (L.set i y') en es xs w' := by
  have n6 := h.ne6
  have hown := h.own hy
  have hold := h.old
  have hla : ∀ k ∈ l, k ∈ z.all L := by
    intro k hk
    rcases hl k hk with h1 | h1
    · exact Lay.inB (Lay.beB (by simp [h1]))
    · exact (hown k h1).2.2
  have hw := h.inW hla
  have nb : ∀ k, k ∈ z.base → k ≠ z.po → k ∉ l := by
    intro k hb hp hm
    rcases hl k hm with h1 | h1
    · exact hp h1
    · exact (hown k h1).1 hb
  have e7 : z.be ∉ l := nb _ (Lay.beB (by simp)) n6.2.2.2.2.2.2.2.2.1
  obtain ⟨hi1, hi2⟩ := List.getElem?_eq_some_iff.1 hy
  have hset : ∀ j y1, (L.set i y')[j]? = some y1 → (j = i ∧ y1 = y') ∨ (j ≠ i ∧ L[j]? = some y1) := by
    intro j y1 hj
    rw [List.getElem?_set] at hj
    split at hj
    · rename_i e
      exact .inl ⟨e.symm, (Option.some.inj hj).symm⟩
    · rename_i e
      exact .inr ⟨fun e' => e e'.symm, hj⟩
  have hmem : ∀ k ∈ z.all (L.set i y'), k ∈ z.all L ∨ w.heap.size ≤ k := by
    intro k hk
    unfold Lay.all at hk
    rw [List.mem_append, mem_feet] at hk
    rcases hk with hk | ⟨y1, hy1, hk⟩
    · exact .inl (Lay.inB hk)
    · obtain ⟨j, hj⟩ := List.getElem?_of_mem hy1
      rcases hset j y1 hj with ⟨_, rfl⟩ | ⟨_, h2⟩
      · rcases hf k hk with h3 | h3
        · exact .inl (hown k h3).2.2
        · exact .inr h3
      · exact .inl (List.mem_append_right _ (mem_feet.2 ⟨y1, List.mem_of_getElem? h2, hk⟩))
  have hfo : ∀ j y1, L[j]? = some y1 → j ≠ i → ∀ k ∈ y1.1.foot z.po, k ∉ l := by
    intro j y1 hj hji k hk hm
    rcases hl k hm with h1 | h1
    · exact (h.own hj k hk).1 (Lay.beB (by simp [h1]))
    · exact (hown k h1).2.1 j y1 hj hji hk
  refine ⟨⟨h.chg.trans' hc (fun k hk => .inr (hw k hk)), hc.keep h.sys (nb _ (Lay.beB (by simp)) n6.1.2.2.2.1), h.six, ⟨h.mem.1.trans' hc (fun k hk => .inr (hw k hk)), h.mem.2.1.keep hc (nb _ (Lay.beB (by simp)) n6.2.1.2.2.1) e7, h.mem.2.2.1.keep hc (nb _ (Lay.beB (by simp)) n6.2.2.1.2.1) (nb _ (Lay.beB (by simp)) n6.2.2.2.1.1), h.mem.2.2.2⟩, hp, by rw [List.length_set]; exact h.cores, hc.keep h.ents (nb _ (Lay.beB (by simp)) (Ne.symm n6.2.2.2.2.1)), h.lines, ?_, ?_, sub_new h hmem⟩, hc.mono (fun k hk => .inl (hla k hk)), hmem⟩
  · intro y1 hy1
    obtain ⟨j, hj⟩ := List.getElem?_of_mem hy1
    rcases hset j y1 hj with ⟨_, rfl⟩ | ⟨hji, h2⟩
    · exact hok
    · exact (h.ok y1 (List.mem_of_getElem? h2)).keep hc hw (hfo j y1 h2 hji)
  · unfold Lay.all
    rw [List.nodup_append]
    refine ⟨h.nodupB, nodup_feet ?_ ?_, ?_⟩
    · intro y1 hy1
      obtain ⟨j, hj⟩ := List.getElem?_of_mem hy1
      rcases hset j y1 hj with ⟨_, rfl⟩ | ⟨_, h2⟩
      · exact hn
      · exact h.foot1 (List.mem_of_getElem? h2)
    · intro a b ya yb hab ha hb k hka hkb
      rcases hset a ya ha with ⟨ea, rfl⟩ | ⟨ea, ha2⟩
      · rcases hset b yb hb with ⟨eb, _⟩ | ⟨eb, hb2⟩
        · omega
        · rcases hf k hka with h3 | h3
          · exact (hown k h3).2.1 b yb hb2 eb hkb
          · have := hold k (h.own hb2 k hkb).2.2
            omega
      · rcases hset b yb hb with ⟨eb, rfl⟩ | ⟨eb, hb2⟩
        · rcases hf k hkb with h3 | h3
          · exact (hown k h3).2.1 a ya ha2 ea hka
          · have := hold k (h.own ha2 k hka).2.2
            omega
        · exact (h.own ha2 k hka).2.1 b yb hb2 (Ne.symm hab) hkb
    · intro k hkb k' hk' e
      subst e
      obtain ⟨y1, hy1, hk1⟩ := mem_feet.1 hk'
      obtain ⟨j, hj⟩ := List.getElem?_of_mem hy1
      rcases hset j y1 hj with ⟨_, rfl⟩ | ⟨_, h2⟩
      · rcases hf k hk1 with h3 | h3
        · exact (hown k h3).1 hkb
        · have := hold k (Lay.inB hkb)
          omega
      · exact (h.own h2 k hk1).1 hkb
end

section
variable {W w w' : World} {c : Cg} {z : Lay} {L : List (Po × Pt)} {en : List En} {es : List Ent} {xs : List Int} (h : Msd W w c z L en es xs)
include h
theorem Msd.okB {l : List Nat} (hc : Chg l w w') (hl : ∀ k ∈ l, k ∈ z.base ∨ w.heap.size ≤ k) : ∀ y ∈ L, PortOk W w' z.po c.se c.wa y := by
  intro y hy
  obtain ⟨j, hj⟩ := List.getElem?_of_mem hy
  refine (h.ok y hy).keep hc ?_ ?_
  · intro k hk
    rcases hl k hk with h1 | h1
    · exact h.new k (Lay.inB h1)
    · exact Nat.le_trans h.chg.size h1
  · intro k hk hm
    rcases hl k hm with h1 | h1
    · exact (h.own hj k hk).1 h1
    · have := h.old k (h.own hj k hk).2.2
      omega
/-- The memory's queue was called. -/
theorem Msd.memory {es' : List Ent} {xs' : List Int} {be' : Nat} (hs : Sys W w' z.q be' z.g z.b c.li c.vo c.qu es' xs') (hc : Chg [z.q, z.be, z.g, z.b] w w') (hb : be' = z.be ∨ w.heap.size ≤ be') :
    MTo W w c z L { z with be := be' } L en es' xs' w' := by
  have n6 := h.ne6
  have hold := h.old
  have hl : ∀ k ∈ [z.q, z.be, z.g, z.b], k ∈ z.base := by
    intro k hk
    simp only [List.mem_cons, List.not_mem_nil, or_false] at hk
    exact Lay.beB (by rcases hk with h | h | h | h <;> simp [h])
  have hla : ∀ k ∈ [z.q, z.be, z.g, z.b], k ∈ z.all L := fun k hk => Lay.inB (hl k hk)
  have hnb : ∀ k ∈ ({ z with be := be' } : Lay).base, k ∈ z.base ∨ w.heap.size ≤ k := by
    intro k hk
    unfold Lay.base at hk
    simp only [List.mem_append, List.mem_cons, List.not_mem_nil, or_false, mem_opt] at hk
    rcases hk with (h1 | h1 | h1 | h1 | h1 | h1) | h1
    · exact .inl (Lay.beB (by simp [h1]))
    · exact .inl (Lay.beB (by simp [h1]))
    · exact .inl (Lay.beB (by simp [h1]))
    · exact .inl (Lay.beB (by simp [h1]))
    · exact .inl (Lay.beB (by simp [h1]))
    · exact .inl (Lay.beB (by simp [h1]))
    · rcases hb with h2 | h2
      · exact .inl (Lay.beB (by simp [h1.1, h2]))
      · exact .inr (by rw [h1.1]; exact h2)
  have hmem : ∀ k ∈ ({ z with be := be' } : Lay).all L, k ∈ z.all L ∨ w.heap.size ≤ k := by
    intro k hk
    unfold Lay.all at hk ⊢
    rw [List.mem_append] at hk
    rcases hk with hk | hk
    · rcases hnb k hk with h1 | h1
      · exact .inl (List.mem_append_left _ h1)
      · exact .inr h1
    · exact .inl (List.mem_append_right _ hk)
  have e6 : ∀ k, k ∈ [z.sy, z.po, z.en] → k ∉ [z.q, z.be, z.g, z.b] := by
    intro k hk
    simp only [List.mem_cons, List.not_mem_nil, or_false] at hk ⊢
    rcases hk with rfl | rfl | rfl
    · simp only [not_or]; exact ⟨n6.1.1, Ne.symm n6.2.2.2.2.2.1, n6.1.2.1, n6.1.2.2.1⟩
    · simp only [not_or]; exact ⟨Ne.symm n6.2.1.2.2.1, Ne.symm n6.2.2.2.2.2.2.2.2.1, Ne.symm n6.2.2.1.2.1, Ne.symm n6.2.2.2.1.1⟩
    · simp only [not_or]; exact ⟨Ne.symm n6.2.1.2.2.2, Ne.symm n6.2.2.2.2.2.2.2.2.2, Ne.symm n6.2.2.1.2.2, Ne.symm n6.2.2.2.1.2⟩
  refine ⟨⟨hs.1, hc.keep h.sys (e6 _ (by simp)), h.six, hs, hc.keep h.ports (e6 _ (by simp)), h.cores, hc.keep h.ents (e6 _ (by simp)), h.lines, h.okB hc (fun k hk => .inl (hl k hk)), ?_, sub_new h hmem⟩, hc.mono (fun k hk => .inl (hla k hk)), hmem⟩
  have hn := h.apart
  unfold Lay.all at hn ⊢
  rw [List.nodup_append] at hn ⊢
  refine ⟨?_, hn.2.1, ?_⟩
  · have hz := hn.1
    have hlt : ∀ k, k ∈ z.base → k < w.heap.size := fun k hk => hold k (Lay.inB hk)
    unfold Lay.base at hz ⊢
    rw [List.nodup_append] at hz ⊢
    refine ⟨hz.1, ?_, ?_⟩
    · unfold opt; split <;> simp
    · intro a ha b hb' e
      subst e
      obtain ⟨h1, h2⟩ := mem_opt.1 hb'
      rcases hb with h3 | h3
      · exact hz.2.2 a ha a (mem_opt.2 ⟨by rw [h1]; exact h3, by rw [← h3]; exact h2⟩) rfl
      · have := hlt a (List.mem_append_left _ ha)
        have h4 : a = be' := h1
        omega
  · intro k hk k' hk' e
    subst e
    rcases hnb k hk with h1 | h1
    · exact hn.2.2 k h1 k hk' rfl
    · have := hold k (List.mem_append_right _ hk')
      omega
/-- One block of the base was written: not the memory's, not the ports'. -/
theorem Msd.other {ks' : List Int} {en' : List En} {k : Nat} (hk : k = z.sy ∨ k = z.en) (hc : Chg [k] w w') (h1 : w'.heap[z.sy]? = some (.cells (({ z with ks := ks' } : Lay).enc c).toArray 95 (0, 0))) (h2 : ks'.length = 6)
    (h3 : w'.heap[z.en]? = some (.cells (sq En.enc en' []) 56 (0, 0))) (h4 : en'.length = c.li) : MTo W w c z L { z with ks := ks' } L en' es xs w' := by
  have n6 := h.ne6
  have hl : ∀ x ∈ [k], x ∈ z.base := by
    intro x hx
    rw [List.mem_singleton] at hx
    exact Lay.beB (by rcases hk with h | h <;> simp [hx, h])
  have hla : ∀ x ∈ [k], x ∈ z.all L := fun x hx => Lay.inB (hl x hx)
  have hw := h.inW hla
  have e : ∀ x, x ∈ [z.q, z.be, z.g, z.b, z.po] → x ∉ [k] := by
    intro x hx
    simp only [List.mem_cons, List.not_mem_nil, or_false] at hx ⊢
    rcases hk with rfl | rfl
    · rcases hx with rfl | rfl | rfl | rfl | rfl
      · exact Ne.symm n6.1.1
      · exact n6.2.2.2.2.2.1
      · exact Ne.symm n6.1.2.1
      · exact Ne.symm n6.1.2.2.1
      · exact Ne.symm n6.1.2.2.2.1
    · rcases hx with rfl | rfl | rfl | rfl | rfl
      · exact n6.2.1.2.2.2
      · exact n6.2.2.2.2.2.2.2.2.2
      · exact n6.2.2.1.2.2
      · exact n6.2.2.2.1.2
      · exact n6.2.2.2.2.1
  have hcw := h.chg.trans' hc (fun x hx => .inr (hw x hx))
  exact ⟨⟨hcw, h1, h2, ⟨hcw, h.mem.2.1.keep hc (e _ (by simp)) (e _ (by simp)), h.mem.2.2.1.keep hc (e _ (by simp)) (e _ (by simp)), h.mem.2.2.2⟩, hc.keep h.ports (e _ (by simp)), h.cores, h3, h4, h.okB hc (fun x hx => .inl (hl x hx)), h.apart, h.new⟩, hc.mono (fun x hx => .inl (hla x hx)), fun x hx => .inl hx⟩
end
end Go.Proofs.YtadeoflkppiflaaGreatDoor
end
