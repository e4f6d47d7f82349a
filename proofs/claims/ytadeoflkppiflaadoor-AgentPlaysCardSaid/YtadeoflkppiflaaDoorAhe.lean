/- Ahe: walked. No condition. -/
import Derived.Test.YtadeoflkppiflaaDoorAhd
import Derived.Test.YtadeoflkppiflaaDoorAgm
import Derived.Test.YtadeoflkppiflaaDoorArrw
import Derived.Test.YtadeoflkppiflaaDoorMsgr
import Derived.BigQuiet
import Derived.Deep.RegionWith
import Derived.Deep.RegionHeld3
import Derived.Deep.QuietTactic
import Derived.Deep.Cut
import Derived.Deep.CutBlock
import Derived.Deep.CutRange
import Derived.Deep.DeepCutAuto
namespace Go.Proofs.YtadeoflkppiflaaDoor
open Go.RowKit
set_option linter.unusedVariables false
set_option maxHeartbeats 1000000
attribute [local go_sem ↓] append_appS copy_copS clear_clrS make_mkS cell_row frozen_row loadLine storeLine loadSlot storeSlot heap_drew heap_drewN heap_alloc heap_past heap_setCell heap_putRow vs_get slc_st slc_li slc_us slice_slS loadMsg storeMsg loadHas storeHas msc_kd msc_li msc_di msc_ke
attribute [local go_sem] rowCell_some rowFrozen_some rowHas_some rowIn_some rowPart_full rowPart_lit rowPut_full rowPut_lit rowSet_some size_putRow vs_size vs_one wideLine wideSlot run_loadS run_storeS run_appS run_copS run_clrS run_mkS loadW_at storeW_at fit_all fit_le one_int one_bool one_pointer one_slice allOne_list putRow_new ne_size1 ne_size2 ne_size3 ne_size4 zero8_length line_eq lit8 slc_size slc_one slc_part slc_in fold_slt fold_slc slc_set_us wideMsg wideHas run_slS msc_size msc_one msc_part msc_in fold_msc msc_putDi msc_putKe msc_putX msc_has ms4_lit ms4_k ms4_l ms4_e
attribute [local simp ↓] heap_drew heap_drewN heap_alloc heap_past heap_setCell heap_putRow
attribute [local simp] rowCell_some rowFrozen_some rowHas_some rowIn_some rowPart_full rowPart_lit rowPut_full rowPut_lit rowSet_some size_putRow vs_size fit_all putRow_new ne_size1 ne_size2 ne_size3 ne_size4 zero8_length slc_size msc_size msc_putDi msc_putKe msc_putX msc_has fit_le ms4_k ms4_l ms4_e


attribute [local go_sem ↓] loadRSlot storeRSlot field_st field_ln
attribute [local go_sem] wideRSlot

theorem hwords_any (kd li : Int) (x : Slt) (ke : Bool) (hxl : x.li = li) (w : World) : Calls Tryd.prog 68 #[.int .i64 kd, .agg (slc x), .int .i64 li, .bool ke] w (MsTo w [toldM kd x ke]) := by
  have hx8 := x.h
  have q : (x.st == 3) = true ∨ ((x.st == 3) = false ∧ (x.st == 9) = true) ∨ ((x.st == 3) = false ∧ (x.st == 9) = false) := by
    cases (x.st == 3) <;> cases (x.st == 9) <;> simp
  have yes : x.st = 3 ∨ x.st = 9 → toldM kd x ke = (((ms4 kd li false ke).putDi true).putL x.l x.h) := by intro h; unfold toldM; rw [if_pos h, ← hxl]; rfl
  have no : (x.st == 3) = false → (x.st == 9) = false → toldM kd x ke = (ms4 kd li false ke) := by
    intro h1 h2
    unfold toldM
    rw [if_neg (by simp at h1 h2; omega), hxl]
  rcases q with q1 | ⟨q1, q2⟩ | ⟨q1, q2⟩
  · rw [yes (.inl (by simpa using q1))]
    clear yes no hxl
    go_enter Tryd.func68, Tryd.ntmps68
    try dsimp only [List.append]
    go_wp2_with fail
    go_region
    all_goals
      go_wp2_with fail
      go_ret
      exact MsTo.at (m := (((ms4 kd li false ke).putDi true).putL x.l x.h)) (by (repeat' (first | with_reducible exact Chg.refl _ _ | with_reducible assumption | with_reducible refine Chg.drew ?_ | with_reducible refine Chg.drewN ?_ _ | with_reducible refine Chg.alloc ?_ _ | with_reducible refine Chg.putRow ?_ _ _ _ (.inr ?_) | with_reducible refine Chg.setCell ?_ _ _ _ (.inr ?_)  | (show _ ≤ _; first | exact Nat.le_refl _ | omega | (simp; done))))) (by simp)
  · rw [yes (.inr (by simpa using q2))]
    clear yes no hxl
    go_enter Tryd.func68, Tryd.ntmps68
    try dsimp only [List.append]
    go_wp2_with fail
    go_region
    all_goals
      go_wp2_with fail
      go_ret
      exact MsTo.at (m := (((ms4 kd li false ke).putDi true).putL x.l x.h)) (by (repeat' (first | with_reducible exact Chg.refl _ _ | with_reducible assumption | with_reducible refine Chg.drew ?_ | with_reducible refine Chg.drewN ?_ _ | with_reducible refine Chg.alloc ?_ _ | with_reducible refine Chg.putRow ?_ _ _ _ (.inr ?_) | with_reducible refine Chg.setCell ?_ _ _ _ (.inr ?_)  | (show _ ≤ _; first | exact Nat.le_refl _ | omega | (simp; done))))) (by simp)
  · rw [no q1 q2]
    clear yes no hxl
    go_enter Tryd.func68, Tryd.ntmps68
    try dsimp only [List.append]
    go_wp2_with fail
    go_ret
    exact MsTo.at (m := (ms4 kd li false ke)) (by (repeat' (first | with_reducible exact Chg.refl _ _ | with_reducible assumption | with_reducible refine Chg.drew ?_ | with_reducible refine Chg.drewN ?_ _ | with_reducible refine Chg.alloc ?_ _ | with_reducible refine Chg.putRow ?_ _ _ _ (.inr ?_) | with_reducible refine Chg.setCell ?_ _ _ _ (.inr ?_)  | (show _ ≤ _; first | exact Nat.le_refl _ | omega | (simp; done))))) (by simp)

/-- What a message that takes leaves, where what is found is known. -/
def lsX (S N : Nat) (s : Sta) (li : Int) (x : Slt) (nx : Int) : Sta := if nx = 10 then dropS s li else setS S N s li nx (if nx = 1 then x.l else zl8) (by split; exact x.h; rfl)
attribute [local go_sem ↓] loadRSlot storeRSlot
set_option maxHeartbeats 4000000 in
theorem hlose_any {g a b S N : Nat} {s : Sta} (li : Int) (x : Slt) (hx : findVal s.1 li = x) (hx0 : x.st ≠ 0 → x.li = li) (w : World) (h : RAg w g a b S N s) (hu : s.2 ≤ 1000000000) : Calls Tryd.prog 48 #[.pointer (some ⟨g, 0, none⟩), .agg (slc x), .int .i64 li] w (fun e w' => (tb 12 x.st = 0 ∧ RgRet w g a b S N s (fun v => .tuple #[v, .int .i64 16]) [] e w') ∨ (tb 12 x.st ≠ 0 ∧ RgRet w g a b S N (lsX S N s li x (tb 12 x.st)) (fun v => .tuple #[v, .int .i64 0]) [toldM 6 x (tb 12 x.st == 1 && 12 == 13)] e w')) := by
  have H := Lib.hid h
  have rG := h.2.1
  have CW := Lib.hid (Chg.refl [a, b] w)
  clear h
  have hsa : 0 ≤ x.st ∧ x.st ≤ 9 := by rw [← hx]; exact find_sane H.out.sane li
  have hx8 := x.h
  have hst : x.st = 0 ∨ x.st = 1 ∨ x.st = 2 ∨ x.st = 3 ∨ x.st = 4 ∨ x.st = 5 ∨ x.st = 6 ∨ x.st = 7 ∨ x.st = 8 ∨ x.st = 9 := by omega
  clear hsa
  rcases hst with hst | hst | hst | hst | hst | hst | hst | hst | hst | hst
  · skip
    have z : x.st = 0 := hst
    have z1 : (x.st == 1) = false := by simp [z]
    have z2 : (x.st == 2) = false := by simp [z]
    have z3 : (x.st == 3) = false := by simp [z]
    have z6 : (x.st == 6) = false := by simp [z]
    have z7 : (x.st == 7) = false := by simp [z]
    have z9 : (x.st == 9) = false := by simp [z]
    have hn : tb 12 x.st = 0 := by rw [z]; rfl
    clear hst z
    rw [hn]
    refine Calls.mono ?_ (fun _ _ h => .inl ⟨rfl, h⟩)
    clear hn hx hx0
    go_enter Tryd.func48, Tryd.ntmps48
    try dsimp only [List.append]
    go_wp2_with fail
    go_ret2
    exact RgRet.nil (f := fun v => .tuple #[v, .int .i64 16]) (H.out.keep ((Chg.refl [] w).alloc _)) (weak2 ((Chg.refl [] w).alloc _))
  · skip
    have z : x.st = 1 := hst
    have z1 : (x.st == 1) = true := by simp [z]
    have hn : tb 12 x.st = 10 := by rw [z]; rfl
    have h00 : x.st ≠ 0 := by omega
    clear hst z
    have hxl := hx0 h00
    rw [hn]
    refine Calls.mono ?_ (fun _ _ h => .inr ⟨by omega, h⟩)
    clear hn hx0 h00
    rw [show lsX S N s li x 10 = dropS s li from rfl]
    clear hx
    go_enter Tryd.func48, Tryd.ntmps48
    try dsimp only [List.append]
    go_upto_region 6 with fail
    have cb := (Chg.refl [] w).alloc (.cells (slc x) 78 (0, 0))
    have rX : (w.alloc (.cells (slc x) 78 (0, 0))).heap[w.heap.size]? = some (.cells (slc x) 78 (0, 0)) := by simp
    have nX := H.out.new2 (k := w.heap.size) (Nat.le_refl _)
    have mX := H.out.new3 (k := w.heap.size) (Nat.le_refl _)
    replace H := Lib.hid (H.out.keep cb)
    replace CW := Lib.hid (CW.out.trans (weak2 cb))
    clear cb
    generalize w.heap.size = pX at rX nX mX ⊢
    generalize w.alloc (.cells (slc x) 78 (0, 0)) = w1 at rX H CW  ⊢
    have rG := H.out.2.1
    have oX := old rX
    go_wp2_with fail
    refine (hdrop_any H.out li).mono ?_
    rintro e w4 ⟨rfl, h4, c4⟩
    replace H := Lib.hid h4
    replace CW := Lib.hid (CW.out.trans c4)
    replace rX := c4.keep rX nX
    clear h4 c4
    go_wp2_with fail
    refine (hwords_any 6 li x false hxl _).mono ?_
    rintro e w9 ⟨A, n, rfl, h1, c9⟩
    go_wp2_with fail
    go_ret2
    exact RgRet.ms (f := fun v => .tuple #[v, .int .i64 0]) H.out CW.out h1 c9
  · skip
    have z : x.st = 2 := hst
    have z1 : (x.st == 1) = false := by simp [z]
    have z2 : (x.st == 2) = true := by simp [z]
    have hn : tb 12 x.st = 10 := by rw [z]; rfl
    have h00 : x.st ≠ 0 := by omega
    clear hst z
    have hxl := hx0 h00
    rw [hn]
    refine Calls.mono ?_ (fun _ _ h => .inr ⟨by omega, h⟩)
    clear hn hx0 h00
    rw [show lsX S N s li x 10 = dropS s li from rfl]
    clear hx
    go_enter Tryd.func48, Tryd.ntmps48
    try dsimp only [List.append]
    go_upto_region 6 with fail
    have cb := (Chg.refl [] w).alloc (.cells (slc x) 78 (0, 0))
    have rX : (w.alloc (.cells (slc x) 78 (0, 0))).heap[w.heap.size]? = some (.cells (slc x) 78 (0, 0)) := by simp
    have nX := H.out.new2 (k := w.heap.size) (Nat.le_refl _)
    have mX := H.out.new3 (k := w.heap.size) (Nat.le_refl _)
    replace H := Lib.hid (H.out.keep cb)
    replace CW := Lib.hid (CW.out.trans (weak2 cb))
    clear cb
    generalize w.heap.size = pX at rX nX mX ⊢
    generalize w.alloc (.cells (slc x) 78 (0, 0)) = w1 at rX H CW  ⊢
    have rG := H.out.2.1
    have oX := old rX
    go_wp2_with fail
    refine (hdrop_any H.out li).mono ?_
    rintro e w4 ⟨rfl, h4, c4⟩
    replace H := Lib.hid h4
    replace CW := Lib.hid (CW.out.trans c4)
    replace rX := c4.keep rX nX
    clear h4 c4
    go_wp2_with fail
    refine (hwords_any 6 li x false hxl _).mono ?_
    rintro e w9 ⟨A, n, rfl, h1, c9⟩
    go_wp2_with fail
    go_ret2
    exact RgRet.ms (f := fun v => .tuple #[v, .int .i64 0]) H.out CW.out h1 c9
  · skip
    have z : x.st = 3 := hst
    have z1 : (x.st == 1) = false := by simp [z]
    have z2 : (x.st == 2) = false := by simp [z]
    have z3 : (x.st == 3) = true := by simp [z]
    have hn : tb 12 x.st = 10 := by rw [z]; rfl
    have h00 : x.st ≠ 0 := by omega
    clear hst z
    have hxl := hx0 h00
    rw [hn]
    refine Calls.mono ?_ (fun _ _ h => .inr ⟨by omega, h⟩)
    clear hn hx0 h00
    rw [show lsX S N s li x 10 = dropS s li from rfl]
    clear hx
    go_enter Tryd.func48, Tryd.ntmps48
    try dsimp only [List.append]
    go_upto_region 6 with fail
    have cb := (Chg.refl [] w).alloc (.cells (slc x) 78 (0, 0))
    have rX : (w.alloc (.cells (slc x) 78 (0, 0))).heap[w.heap.size]? = some (.cells (slc x) 78 (0, 0)) := by simp
    have nX := H.out.new2 (k := w.heap.size) (Nat.le_refl _)
    have mX := H.out.new3 (k := w.heap.size) (Nat.le_refl _)
    replace H := Lib.hid (H.out.keep cb)
    replace CW := Lib.hid (CW.out.trans (weak2 cb))
    clear cb
    generalize w.heap.size = pX at rX nX mX ⊢
    generalize w.alloc (.cells (slc x) 78 (0, 0)) = w1 at rX H CW  ⊢
    have rG := H.out.2.1
    have oX := old rX
    go_wp2_with fail
    refine (hdrop_any H.out li).mono ?_
    rintro e w4 ⟨rfl, h4, c4⟩
    replace H := Lib.hid h4
    replace CW := Lib.hid (CW.out.trans c4)
    replace rX := c4.keep rX nX
    clear h4 c4
    go_wp2_with fail
    refine (hwords_any 6 li x false hxl _).mono ?_
    rintro e w9 ⟨A, n, rfl, h1, c9⟩
    go_wp2_with fail
    go_ret2
    exact RgRet.ms (f := fun v => .tuple #[v, .int .i64 0]) H.out CW.out h1 c9
  · skip
    have z : x.st = 4 := hst
    have z1 : (x.st == 1) = false := by simp [z]
    have z2 : (x.st == 2) = false := by simp [z]
    have z3 : (x.st == 3) = false := by simp [z]
    have z6 : (x.st == 6) = false := by simp [z]
    have z7 : (x.st == 7) = false := by simp [z]
    have z9 : (x.st == 9) = false := by simp [z]
    have hn : tb 12 x.st = 0 := by rw [z]; rfl
    have h00 : x.st ≠ 0 := by omega
    clear hst z
    rw [hn]
    refine Calls.mono ?_ (fun _ _ h => .inl ⟨rfl, h⟩)
    clear hn hx hx0
    go_enter Tryd.func48, Tryd.ntmps48
    try dsimp only [List.append]
    go_wp2_with fail
    go_ret2
    exact RgRet.nil (f := fun v => .tuple #[v, .int .i64 16]) (H.out.keep ((Chg.refl [] w).alloc _)) (weak2 ((Chg.refl [] w).alloc _))
  · skip
    have z : x.st = 5 := hst
    have z1 : (x.st == 1) = false := by simp [z]
    have z2 : (x.st == 2) = false := by simp [z]
    have z3 : (x.st == 3) = false := by simp [z]
    have z6 : (x.st == 6) = false := by simp [z]
    have z7 : (x.st == 7) = false := by simp [z]
    have z9 : (x.st == 9) = false := by simp [z]
    have hn : tb 12 x.st = 0 := by rw [z]; rfl
    have h00 : x.st ≠ 0 := by omega
    clear hst z
    rw [hn]
    refine Calls.mono ?_ (fun _ _ h => .inl ⟨rfl, h⟩)
    clear hn hx hx0
    go_enter Tryd.func48, Tryd.ntmps48
    try dsimp only [List.append]
    go_wp2_with fail
    go_ret2
    exact RgRet.nil (f := fun v => .tuple #[v, .int .i64 16]) (H.out.keep ((Chg.refl [] w).alloc _)) (weak2 ((Chg.refl [] w).alloc _))
  · skip
    have z : x.st = 6 := hst
    have z1 : (x.st == 1) = false := by simp [z]
    have z2 : (x.st == 2) = false := by simp [z]
    have z3 : (x.st == 3) = false := by simp [z]
    have z6 : (x.st == 6) = true := by simp [z]
    have hn : tb 12 x.st = 5 := by rw [z]; rfl
    have h00 : x.st ≠ 0 := by omega
    clear hst z
    have hxl := hx0 h00
    rw [hn]
    refine Calls.mono ?_ (fun _ _ h => .inr ⟨by omega, h⟩)
    clear hn hx0 h00
    rw [show lsX S N s li x 5 = setS S N s li 5 zl8 rfl from rfl]
    clear hx
    go_enter Tryd.func48, Tryd.ntmps48
    try dsimp only [List.append]
    go_upto_region 8 with fail
    have cb := (Chg.refl [] w).alloc (.cells (slc x) 78 (0, 0))
    have rX : (w.alloc (.cells (slc x) 78 (0, 0))).heap[w.heap.size]? = some (.cells (slc x) 78 (0, 0)) := by simp
    have nX := H.out.new2 (k := w.heap.size) (Nat.le_refl _)
    have mX := H.out.new3 (k := w.heap.size) (Nat.le_refl _)
    replace H := Lib.hid (H.out.keep cb)
    replace CW := Lib.hid (CW.out.trans (weak2 cb))
    clear cb
    generalize w.heap.size = pX at rX nX mX ⊢
    generalize w.alloc (.cells (slc x) 78 (0, 0)) = w1 at rX H CW  ⊢
    have rG := H.out.2.1
    have oX := old rX
    go_wp2_with fail
    refine (hsetz_any H.out hu li 5).mono ?_
    rintro e w4 ⟨rfl, h4, c4⟩
    replace H := Lib.hid h4
    replace CW := Lib.hid (CW.out.trans c4)
    replace rX := c4.keep rX nX
    clear h4 c4
    go_wp2_with fail
    refine (hwords_any 6 li x false hxl _).mono ?_
    rintro e w9 ⟨A, n, rfl, h1, c9⟩
    go_wp2_with fail
    go_ret2
    exact RgRet.ms (f := fun v => .tuple #[v, .int .i64 0]) H.out CW.out h1 c9
  · skip
    have z : x.st = 7 := hst
    have z1 : (x.st == 1) = false := by simp [z]
    have z2 : (x.st == 2) = false := by simp [z]
    have z3 : (x.st == 3) = false := by simp [z]
    have z6 : (x.st == 6) = false := by simp [z]
    have z7 : (x.st == 7) = true := by simp [z]
    have hn : tb 12 x.st = 8 := by rw [z]; rfl
    have h00 : x.st ≠ 0 := by omega
    clear hst z
    have hxl := hx0 h00
    rw [hn]
    refine Calls.mono ?_ (fun _ _ h => .inr ⟨by omega, h⟩)
    clear hn hx0 h00
    rw [show lsX S N s li x 8 = setS S N s li 8 zl8 rfl from rfl]
    clear hx
    go_enter Tryd.func48, Tryd.ntmps48
    try dsimp only [List.append]
    go_upto_region 11 with fail
    have cb := (Chg.refl [] w).alloc (.cells (slc x) 78 (0, 0))
    have rX : (w.alloc (.cells (slc x) 78 (0, 0))).heap[w.heap.size]? = some (.cells (slc x) 78 (0, 0)) := by simp
    have nX := H.out.new2 (k := w.heap.size) (Nat.le_refl _)
    have mX := H.out.new3 (k := w.heap.size) (Nat.le_refl _)
    replace H := Lib.hid (H.out.keep cb)
    replace CW := Lib.hid (CW.out.trans (weak2 cb))
    clear cb
    generalize w.heap.size = pX at rX nX mX ⊢
    generalize w.alloc (.cells (slc x) 78 (0, 0)) = w1 at rX H CW  ⊢
    have rG := H.out.2.1
    have oX := old rX
    go_wp2_with fail
    refine (hsetz_any H.out hu li 8).mono ?_
    rintro e w4 ⟨rfl, h4, c4⟩
    replace H := Lib.hid h4
    replace CW := Lib.hid (CW.out.trans c4)
    replace rX := c4.keep rX nX
    clear h4 c4
    go_wp2_with fail
    refine (hwords_any 6 li x false hxl _).mono ?_
    rintro e w9 ⟨A, n, rfl, h1, c9⟩
    go_wp2_with fail
    go_ret2
    exact RgRet.ms (f := fun v => .tuple #[v, .int .i64 0]) H.out CW.out h1 c9
  · skip
    have z : x.st = 8 := hst
    have z1 : (x.st == 1) = false := by simp [z]
    have z2 : (x.st == 2) = false := by simp [z]
    have z3 : (x.st == 3) = false := by simp [z]
    have z6 : (x.st == 6) = false := by simp [z]
    have z7 : (x.st == 7) = false := by simp [z]
    have z9 : (x.st == 9) = false := by simp [z]
    have hn : tb 12 x.st = 0 := by rw [z]; rfl
    have h00 : x.st ≠ 0 := by omega
    clear hst z
    rw [hn]
    refine Calls.mono ?_ (fun _ _ h => .inl ⟨rfl, h⟩)
    clear hn hx hx0
    go_enter Tryd.func48, Tryd.ntmps48
    try dsimp only [List.append]
    go_wp2_with fail
    go_ret2
    exact RgRet.nil (f := fun v => .tuple #[v, .int .i64 16]) (H.out.keep ((Chg.refl [] w).alloc _)) (weak2 ((Chg.refl [] w).alloc _))
  · skip
    have z : x.st = 9 := hst
    have z1 : (x.st == 1) = false := by simp [z]
    have z2 : (x.st == 2) = false := by simp [z]
    have z3 : (x.st == 3) = false := by simp [z]
    have z6 : (x.st == 6) = false := by simp [z]
    have z7 : (x.st == 7) = false := by simp [z]
    have z9 : (x.st == 9) = true := by simp [z]
    have hn : tb 12 x.st = 8 := by rw [z]; rfl
    have h00 : x.st ≠ 0 := by omega
    clear hst z
    have hxl := hx0 h00
    rw [hn]
    refine Calls.mono ?_ (fun _ _ h => .inr ⟨by omega, h⟩)
    clear hn hx0 h00
    rw [show lsX S N s li x 8 = setS S N s li 8 zl8 rfl from rfl]
    clear hx
    go_enter Tryd.func48, Tryd.ntmps48
    try dsimp only [List.append]
    go_upto_region 11 with fail
    have cb := (Chg.refl [] w).alloc (.cells (slc x) 78 (0, 0))
    have rX : (w.alloc (.cells (slc x) 78 (0, 0))).heap[w.heap.size]? = some (.cells (slc x) 78 (0, 0)) := by simp
    have nX := H.out.new2 (k := w.heap.size) (Nat.le_refl _)
    have mX := H.out.new3 (k := w.heap.size) (Nat.le_refl _)
    replace H := Lib.hid (H.out.keep cb)
    replace CW := Lib.hid (CW.out.trans (weak2 cb))
    clear cb
    generalize w.heap.size = pX at rX nX mX ⊢
    generalize w.alloc (.cells (slc x) 78 (0, 0)) = w1 at rX H CW  ⊢
    have rG := H.out.2.1
    have oX := old rX
    go_wp2_with fail
    refine (hsetz_any H.out hu li 8).mono ?_
    rintro e w4 ⟨rfl, h4, c4⟩
    replace H := Lib.hid h4
    replace CW := Lib.hid (CW.out.trans c4)
    replace rX := c4.keep rX nX
    clear h4 c4
    go_wp2_with fail
    refine (hwords_any 6 li x false hxl _).mono ?_
    rintro e w9 ⟨A, n, rfl, h1, c9⟩
    go_wp2_with fail
    go_ret2
    exact RgRet.ms (f := fun v => .tuple #[v, .int .i64 0]) H.out CW.out h1 c9
set_option maxHeartbeats 4000000 in
theorem hshare_any {g a b S N : Nat} {s : Sta} (li : Int) (x : Slt) (hx : findVal s.1 li = x) (hx0 : x.st ≠ 0 → x.li = li) (w : World) (h : RAg w g a b S N s) (hu : s.2 ≤ 1000000000) : Calls Tryd.prog 49 #[.pointer (some ⟨g, 0, none⟩), .agg (slc x), .int .i64 li] w (fun e w' => (tb 13 x.st = 0 ∧ RgRet w g a b S N s (fun v => .tuple #[v, .int .i64 16]) [] e w') ∨ (tb 13 x.st ≠ 0 ∧ RgRet w g a b S N (lsX S N s li x (tb 13 x.st)) (fun v => .tuple #[v, .int .i64 0]) [toldM 7 x (tb 13 x.st == 1 && 13 == 13)] e w')) := by
  have H := Lib.hid h
  have rG := h.2.1
  have CW := Lib.hid (Chg.refl [a, b] w)
  clear h
  have hsa : 0 ≤ x.st ∧ x.st ≤ 9 := by rw [← hx]; exact find_sane H.out.sane li
  have hx8 := x.h
  have hst : x.st = 0 ∨ x.st = 1 ∨ x.st = 2 ∨ x.st = 3 ∨ x.st = 4 ∨ x.st = 5 ∨ x.st = 6 ∨ x.st = 7 ∨ x.st = 8 ∨ x.st = 9 := by omega
  clear hsa
  rcases hst with hst | hst | hst | hst | hst | hst | hst | hst | hst | hst
  · skip
    have z : x.st = 0 := hst
    have z2 : (x.st == 2) = false := by simp [z]
    have z3 : (x.st == 3) = false := by simp [z]
    have z7 : (x.st == 7) = false := by simp [z]
    have z9 : (x.st == 9) = false := by simp [z]
    have hn : tb 13 x.st = 0 := by rw [z]; rfl
    clear hst z
    rw [hn]
    refine Calls.mono ?_ (fun _ _ h => .inl ⟨rfl, h⟩)
    clear hn hx hx0
    go_enter Tryd.func49, Tryd.ntmps49
    try dsimp only [List.append]
    go_wp2_with fail
    go_ret2
    exact RgRet.nil (f := fun v => .tuple #[v, .int .i64 16]) (H.out.keep ((Chg.refl [] w).alloc _)) (weak2 ((Chg.refl [] w).alloc _))
  · skip
    have z : x.st = 1 := hst
    have z2 : (x.st == 2) = false := by simp [z]
    have z3 : (x.st == 3) = false := by simp [z]
    have z7 : (x.st == 7) = false := by simp [z]
    have z9 : (x.st == 9) = false := by simp [z]
    have hn : tb 13 x.st = 0 := by rw [z]; rfl
    have h00 : x.st ≠ 0 := by omega
    clear hst z
    rw [hn]
    refine Calls.mono ?_ (fun _ _ h => .inl ⟨rfl, h⟩)
    clear hn hx hx0
    go_enter Tryd.func49, Tryd.ntmps49
    try dsimp only [List.append]
    go_wp2_with fail
    go_ret2
    exact RgRet.nil (f := fun v => .tuple #[v, .int .i64 16]) (H.out.keep ((Chg.refl [] w).alloc _)) (weak2 ((Chg.refl [] w).alloc _))
  · skip
    have z : x.st = 2 := hst
    have z2 : (x.st == 2) = true := by simp [z]
    have hn : tb 13 x.st = 1 := by rw [z]; rfl
    have h00 : x.st ≠ 0 := by omega
    clear hst z
    have hxl := hx0 h00
    rw [hn]
    refine Calls.mono ?_ (fun _ _ h => .inr ⟨by omega, h⟩)
    clear hn hx0 h00
    rw [show lsX S N s li x 1 = setS S N s li 1 x.l x.h from rfl]
    clear hx
    go_enter Tryd.func49, Tryd.ntmps49
    try dsimp only [List.append]
    go_upto_region 4 with fail
    have cb := (Chg.refl [] w).alloc (.cells (slc x) 78 (0, 0))
    have rX : (w.alloc (.cells (slc x) 78 (0, 0))).heap[w.heap.size]? = some (.cells (slc x) 78 (0, 0)) := by simp
    have nX := H.out.new2 (k := w.heap.size) (Nat.le_refl _)
    have mX := H.out.new3 (k := w.heap.size) (Nat.le_refl _)
    replace H := Lib.hid (H.out.keep cb)
    replace CW := Lib.hid (CW.out.trans (weak2 cb))
    clear cb
    generalize w.heap.size = pX at rX nX mX ⊢
    generalize w.alloc (.cells (slc x) 78 (0, 0)) = w1 at rX H CW  ⊢
    have rG := H.out.2.1
    have oX := old rX
    have nG := H.out.2.2.1
    go_region_held3 (fun w' => w'.heap[g]? = some (.cells #[.pointer (some ⟨a, 0, none⟩)] 60 (0, 0)) ∧ w'.heap[pX]? = some (.cells (slc x) 78 (0, 0))) (first | exact ⟨rG, rX⟩ | exact ⟨c4.keep rG nG, c4.keep rX nX⟩)
      (first
        | (go_at_call 39; refine (hset_any (H.out.keep (Chg.drew (Chg.refl [] w1))) hu li 1 x.l x.h).mono ?_; rintro e w4 ⟨rfl, h4, c4⟩))
    all_goals
      replace H := Lib.hid h4
      replace CW := Lib.hid (CW.out.trans (Chg.trans (Chg.drew (Chg.refl [a, b] w1)) c4))
      replace rX := c4.keep rX nX
      clear h4 c4 rG
      have rG := H.out.2.1
      go_wp2_with fail
      refine (hwords_any 7 li x true hxl _).mono ?_
      rintro e w9 ⟨A, n, rfl, h1, c9⟩
      go_wp2_with fail
      go_ret2
      exact RgRet.ms (f := fun v => .tuple #[v, .int .i64 0]) H.out CW.out h1 c9
  · skip
    have z : x.st = 3 := hst
    have z2 : (x.st == 2) = false := by simp [z]
    have z3 : (x.st == 3) = true := by simp [z]
    have hn : tb 13 x.st = 1 := by rw [z]; rfl
    have h00 : x.st ≠ 0 := by omega
    clear hst z
    have hxl := hx0 h00
    rw [hn]
    refine Calls.mono ?_ (fun _ _ h => .inr ⟨by omega, h⟩)
    clear hn hx0 h00
    rw [show lsX S N s li x 1 = setS S N s li 1 x.l x.h from rfl]
    clear hx
    go_enter Tryd.func49, Tryd.ntmps49
    try dsimp only [List.append]
    go_upto_region 4 with fail
    have cb := (Chg.refl [] w).alloc (.cells (slc x) 78 (0, 0))
    have rX : (w.alloc (.cells (slc x) 78 (0, 0))).heap[w.heap.size]? = some (.cells (slc x) 78 (0, 0)) := by simp
    have nX := H.out.new2 (k := w.heap.size) (Nat.le_refl _)
    have mX := H.out.new3 (k := w.heap.size) (Nat.le_refl _)
    replace H := Lib.hid (H.out.keep cb)
    replace CW := Lib.hid (CW.out.trans (weak2 cb))
    clear cb
    generalize w.heap.size = pX at rX nX mX ⊢
    generalize w.alloc (.cells (slc x) 78 (0, 0)) = w1 at rX H CW  ⊢
    have rG := H.out.2.1
    have oX := old rX
    have nG := H.out.2.2.1
    go_region_held3 (fun w' => w'.heap[g]? = some (.cells #[.pointer (some ⟨a, 0, none⟩)] 60 (0, 0)) ∧ w'.heap[pX]? = some (.cells (slc x) 78 (0, 0))) (first | exact ⟨rG, rX⟩ | exact ⟨c4.keep rG nG, c4.keep rX nX⟩)
      (first
        | (go_at_call 39; refine (hset_any (H.out.keep (Chg.drew (Chg.refl [] w1))) hu li 1 x.l x.h).mono ?_; rintro e w4 ⟨rfl, h4, c4⟩))
    all_goals
      replace H := Lib.hid h4
      replace CW := Lib.hid (CW.out.trans (Chg.trans (Chg.drew (Chg.refl [a, b] w1)) c4))
      replace rX := c4.keep rX nX
      clear h4 c4 rG
      have rG := H.out.2.1
      go_wp2_with fail
      refine (hwords_any 7 li x true hxl _).mono ?_
      rintro e w9 ⟨A, n, rfl, h1, c9⟩
      go_wp2_with fail
      go_ret2
      exact RgRet.ms (f := fun v => .tuple #[v, .int .i64 0]) H.out CW.out h1 c9
  · skip
    have z : x.st = 4 := hst
    have z2 : (x.st == 2) = false := by simp [z]
    have z3 : (x.st == 3) = false := by simp [z]
    have z7 : (x.st == 7) = false := by simp [z]
    have z9 : (x.st == 9) = false := by simp [z]
    have hn : tb 13 x.st = 0 := by rw [z]; rfl
    have h00 : x.st ≠ 0 := by omega
    clear hst z
    rw [hn]
    refine Calls.mono ?_ (fun _ _ h => .inl ⟨rfl, h⟩)
    clear hn hx hx0
    go_enter Tryd.func49, Tryd.ntmps49
    try dsimp only [List.append]
    go_wp2_with fail
    go_ret2
    exact RgRet.nil (f := fun v => .tuple #[v, .int .i64 16]) (H.out.keep ((Chg.refl [] w).alloc _)) (weak2 ((Chg.refl [] w).alloc _))
  · skip
    have z : x.st = 5 := hst
    have z2 : (x.st == 2) = false := by simp [z]
    have z3 : (x.st == 3) = false := by simp [z]
    have z7 : (x.st == 7) = false := by simp [z]
    have z9 : (x.st == 9) = false := by simp [z]
    have hn : tb 13 x.st = 0 := by rw [z]; rfl
    have h00 : x.st ≠ 0 := by omega
    clear hst z
    rw [hn]
    refine Calls.mono ?_ (fun _ _ h => .inl ⟨rfl, h⟩)
    clear hn hx hx0
    go_enter Tryd.func49, Tryd.ntmps49
    try dsimp only [List.append]
    go_wp2_with fail
    go_ret2
    exact RgRet.nil (f := fun v => .tuple #[v, .int .i64 16]) (H.out.keep ((Chg.refl [] w).alloc _)) (weak2 ((Chg.refl [] w).alloc _))
  · skip
    have z : x.st = 6 := hst
    have z2 : (x.st == 2) = false := by simp [z]
    have z3 : (x.st == 3) = false := by simp [z]
    have z7 : (x.st == 7) = false := by simp [z]
    have z9 : (x.st == 9) = false := by simp [z]
    have hn : tb 13 x.st = 0 := by rw [z]; rfl
    have h00 : x.st ≠ 0 := by omega
    clear hst z
    rw [hn]
    refine Calls.mono ?_ (fun _ _ h => .inl ⟨rfl, h⟩)
    clear hn hx hx0
    go_enter Tryd.func49, Tryd.ntmps49
    try dsimp only [List.append]
    go_wp2_with fail
    go_ret2
    exact RgRet.nil (f := fun v => .tuple #[v, .int .i64 16]) (H.out.keep ((Chg.refl [] w).alloc _)) (weak2 ((Chg.refl [] w).alloc _))
  · skip
    have z : x.st = 7 := hst
    have z2 : (x.st == 2) = false := by simp [z]
    have z3 : (x.st == 3) = false := by simp [z]
    have z7 : (x.st == 7) = true := by simp [z]
    have hn : tb 13 x.st = 8 := by rw [z]; rfl
    have h00 : x.st ≠ 0 := by omega
    clear hst z
    have hxl := hx0 h00
    rw [hn]
    refine Calls.mono ?_ (fun _ _ h => .inr ⟨by omega, h⟩)
    clear hn hx0 h00
    rw [show lsX S N s li x 8 = setS S N s li 8 zl8 rfl from rfl]
    clear hx
    go_enter Tryd.func49, Tryd.ntmps49
    try dsimp only [List.append]
    go_upto_region 8 with fail
    have cb := (Chg.refl [] w).alloc (.cells (slc x) 78 (0, 0))
    have rX : (w.alloc (.cells (slc x) 78 (0, 0))).heap[w.heap.size]? = some (.cells (slc x) 78 (0, 0)) := by simp
    have nX := H.out.new2 (k := w.heap.size) (Nat.le_refl _)
    have mX := H.out.new3 (k := w.heap.size) (Nat.le_refl _)
    replace H := Lib.hid (H.out.keep cb)
    replace CW := Lib.hid (CW.out.trans (weak2 cb))
    clear cb
    generalize w.heap.size = pX at rX nX mX ⊢
    generalize w.alloc (.cells (slc x) 78 (0, 0)) = w1 at rX H CW  ⊢
    have rG := H.out.2.1
    have oX := old rX
    go_wp2_with fail
    refine (hsetz_any H.out hu li 8).mono ?_
    rintro e w4 ⟨rfl, h4, c4⟩
    replace H := Lib.hid h4
    replace CW := Lib.hid (CW.out.trans c4)
    replace rX := c4.keep rX nX
    clear h4 c4
    go_wp2_with fail
    refine (hwords_any 7 li x false hxl _).mono ?_
    rintro e w9 ⟨A, n, rfl, h1, c9⟩
    go_wp2_with fail
    go_ret2
    exact RgRet.ms (f := fun v => .tuple #[v, .int .i64 0]) H.out CW.out h1 c9
  · skip
    have z : x.st = 8 := hst
    have z2 : (x.st == 2) = false := by simp [z]
    have z3 : (x.st == 3) = false := by simp [z]
    have z7 : (x.st == 7) = false := by simp [z]
    have z9 : (x.st == 9) = false := by simp [z]
    have hn : tb 13 x.st = 0 := by rw [z]; rfl
    have h00 : x.st ≠ 0 := by omega
    clear hst z
    rw [hn]
    refine Calls.mono ?_ (fun _ _ h => .inl ⟨rfl, h⟩)
    clear hn hx hx0
    go_enter Tryd.func49, Tryd.ntmps49
    try dsimp only [List.append]
    go_wp2_with fail
    go_ret2
    exact RgRet.nil (f := fun v => .tuple #[v, .int .i64 16]) (H.out.keep ((Chg.refl [] w).alloc _)) (weak2 ((Chg.refl [] w).alloc _))
  · skip
    have z : x.st = 9 := hst
    have z2 : (x.st == 2) = false := by simp [z]
    have z3 : (x.st == 3) = false := by simp [z]
    have z7 : (x.st == 7) = false := by simp [z]
    have z9 : (x.st == 9) = true := by simp [z]
    have hn : tb 13 x.st = 8 := by rw [z]; rfl
    have h00 : x.st ≠ 0 := by omega
    clear hst z
    have hxl := hx0 h00
    rw [hn]
    refine Calls.mono ?_ (fun _ _ h => .inr ⟨by omega, h⟩)
    clear hn hx0 h00
    rw [show lsX S N s li x 8 = setS S N s li 8 zl8 rfl from rfl]
    clear hx
    go_enter Tryd.func49, Tryd.ntmps49
    try dsimp only [List.append]
    go_upto_region 8 with fail
    have cb := (Chg.refl [] w).alloc (.cells (slc x) 78 (0, 0))
    have rX : (w.alloc (.cells (slc x) 78 (0, 0))).heap[w.heap.size]? = some (.cells (slc x) 78 (0, 0)) := by simp
    have nX := H.out.new2 (k := w.heap.size) (Nat.le_refl _)
    have mX := H.out.new3 (k := w.heap.size) (Nat.le_refl _)
    replace H := Lib.hid (H.out.keep cb)
    replace CW := Lib.hid (CW.out.trans (weak2 cb))
    clear cb
    generalize w.heap.size = pX at rX nX mX ⊢
    generalize w.alloc (.cells (slc x) 78 (0, 0)) = w1 at rX H CW  ⊢
    have rG := H.out.2.1
    have oX := old rX
    go_wp2_with fail
    refine (hsetz_any H.out hu li 8).mono ?_
    rintro e w4 ⟨rfl, h4, c4⟩
    replace H := Lib.hid h4
    replace CW := Lib.hid (CW.out.trans c4)
    replace rX := c4.keep rX nX
    clear h4 c4
    go_wp2_with fail
    refine (hwords_any 7 li x false hxl _).mono ?_
    rintro e w9 ⟨A, n, rfl, h1, c9⟩
    go_wp2_with fail
    go_ret2
    exact RgRet.ms (f := fun v => .tuple #[v, .int .i64 0]) H.out CW.out h1 c9
end Go.Proofs.YtadeoflkppiflaaDoor
