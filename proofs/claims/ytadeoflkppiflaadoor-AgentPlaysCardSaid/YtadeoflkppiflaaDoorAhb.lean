/- Ahb: walked. No condition. -/
import Derived.Test.YtadeoflkppiflaaDoorAh
import Derived.Test.YtadeoflkppiflaaDoorAgm
import Derived.Test.YtadeoflkppiflaaDoorArrw
import Derived.Test.YtadeoflkppiflaaDoorMsgr
import Derived.BigQuiet
import Derived.Deep.RegionWith
import Derived.Deep.RegionHeld3
import Derived.Deep.QuietTactic
import Derived.Deep.Cut
import Derived.Deep.CutBlock
import Derived.Deep.CutRange
import Derived.Deep.DeepCutAuto
namespace Go.Proofs.YtadeoflkppiflaaDoor
open Go.RowKit
set_option linter.unusedVariables false
set_option maxHeartbeats 1000000
attribute [local go_sem ↓] append_appS copy_copS clear_clrS make_mkS cell_row frozen_row loadLine storeLine loadSlot storeSlot heap_drew heap_drewN heap_alloc heap_past heap_setCell heap_putRow vs_get slc_st slc_li slc_us slice_slS loadMsg storeMsg loadHas storeHas msc_kd msc_li msc_di msc_ke
attribute [local go_sem] rowCell_some rowFrozen_some rowHas_some rowIn_some rowPart_full rowPart_lit rowPut_full rowPut_lit rowSet_some size_putRow vs_size vs_one wideLine wideSlot run_loadS run_storeS run_appS run_copS run_clrS run_mkS loadW_at storeW_at fit_all fit_le one_int one_bool one_pointer one_slice allOne_list putRow_new ne_size1 ne_size2 ne_size3 ne_size4 zero8_length line_eq lit8 slc_size slc_one slc_part slc_in fold_slt fold_slc slc_set_us wideMsg wideHas run_slS msc_size msc_one msc_part msc_in fold_msc msc_putDi msc_putKe msc_putX msc_has ms4_lit ms4_k ms4_l ms4_e
attribute [local simp ↓] heap_drew heap_drewN heap_alloc heap_past heap_setCell heap_putRow
attribute [local simp] rowCell_some rowFrozen_some rowHas_some rowIn_some rowPart_full rowPart_lit rowPut_full rowPut_lit rowSet_some size_putRow vs_size fit_all putRow_new ne_size1 ne_size2 ne_size3 ne_size4 zero8_length slc_size msc_size msc_putDi msc_putKe msc_putX msc_has fit_le ms4_k ms4_l ms4_e


attribute [local go_sem ↓] loadRSlot storeRSlot field_st field_ln
attribute [local go_sem] wideRSlot
theorem RAg.new3 {w : World} {g a b S N : Nat} {s : Sta} (h : RAg w g a b S N s) {k : Nat} (hk : w.heap.size ≤ k) : k ∉ [g, a, b] := by
  have h1 := h.new2 hk
  have h2 := lt_heap h.2.1
  simp at h1 ⊢
  omega
theorem RAg.apart {w w' : World} {g a b S N : Nat} {s : Sta} (h : RAg w g a b S N s) {k : Nat} (hc : Chg [k] w w') (hk : k ∉ [g, a, b]) : RAg w' g a b S N s := by
  have h1 : g ∉ [k] ∧ a ∉ [k] ∧ b ∉ [k] := by simp at hk ⊢; omega
  exact ⟨h.1.keep hc h1.2.1 h1.2.2, hc.keep h.2.1 h1.1, h.2.2⟩
section
variable {w w1 w2 : World} {g a b S N : Nat} {s : Sta} {f : Value → Value}
theorem RgRet.one (h : RAg w1 g a b S N s) (hc : Chg [a, b] w w1) (m : Ms) : RgRet w g a b S N s f [m] (.returned (f (.slice (some ⟨w1.heap.size, 0, none⟩) 1 1))) (w1.alloc (.cells (msc m) 35)) :=
  ⟨_, 1, rfl, (Told.one w1 m).from hc.size, h.keep ((Chg.refl [] w1).alloc _), hc.alloc _⟩
theorem RgRet.nil (h : RAg w1 g a b S N s) (hc : Chg [a, b] w w1) : RgRet w g a b S N s f [] (.returned (f (.slice none 0 0))) w1 :=
  ⟨none, 0, rfl, Told.nil _ _, h, hc⟩
theorem RgRet.ms {A : Option Addr} {ms : List Ms} {n : Nat} (h : RAg w1 g a b S N s) (hc : Chg [a, b] w w1) (h1 : Told w1 w2 A ms) (c : Chg [] w1 w2) : RgRet w g a b S N s f ms (.returned (f (.slice A ms.length n))) w2 :=
  ⟨A, n, rfl, h1.from hc.size, h.keep c, hc.trans (weak2 c)⟩
end
theorem hout_any {g a b S N : Nat} {s : Sta} (li : Int) (hr : atRest (findVal s.1 li).st = true) (w : World) (h : RAg w g a b S N s) (hu : s.2 ≤ 1000000000) : Calls Tryd.prog 51 #[.pointer (some ⟨g, 0, none⟩), .int .i64 li] w (RgRet w g a b S N (outF S N s li).1 (fun v => v) (outF S N s li).2) := by
  have H := Lib.hid h
  have rG := h.2.1
  have CW := Lib.hid (Chg.refl [a, b] w)
  clear h
  have hf := hslot_any li w H.out
  have hx0 : (findVal s.1 li).st ≠ 0 := by have := (rest_iff _).1 hr; omega
  have hxl := (find_line hx0).1
  rw [out_yes hr]
  generalize findVal s.1 li = x at hf hr hxl
  have hx8 := x.h
  have told : toldM 3 x false = if x.st = 3 then ((ms4 3 li false false).putDi true).putL x.l x.h else (ms4 3 li false false) := by
    unfold toldM
    have := (rest_iff _).1 hr
    by_cases h3 : x.st = 3
    · rw [if_pos (.inl h3), if_pos h3, ← hxl]; rfl
    · rw [if_neg (by omega), if_neg h3, hxl]
  rw [told]
  clear told hxl hx0 hr
  cases q1 : (x.st == 3)
  · rw [if_neg (by simpa using q1), show outNx x.st = 7 by unfold outNx; rw [if_neg (by simpa using q1)]]
    go_enter Tryd.func51, Tryd.ntmps51
    try dsimp only [List.append]
    go_wp2_with fail
    refine hf.mono ?_
    clear hf
    rintro e w2 ⟨rfl, c2⟩
    replace H := Lib.hid (H.out.keep c2)
    replace CW := Lib.hid (CW.out.trans (weak2 c2))
    clear c2
    have rG := H.out.2.1
    go_upto_region 2 with fail
    have cb := (Chg.refl [] w2).alloc (.cells (slc x) 78 (0, 0))
    have rX : (w2.alloc (.cells (slc x) 78 (0, 0))).heap[w2.heap.size]? = some (.cells (slc x) 78 (0, 0)) := by simp
    have nX := H.out.new2 (k := w2.heap.size) (Nat.le_refl _)
    have mX := H.out.new3 (k := w2.heap.size) (Nat.le_refl _)
    have uX := CW.out.size
    replace H := Lib.hid (H.out.keep cb)
    replace CW := Lib.hid (CW.out.trans (weak2 cb))
    clear cb
    generalize w2.heap.size = pX at rX nX mX uX ⊢
    generalize w2.alloc (.cells (slc x) 78 (0, 0)) = w3 at rX H CW  ⊢
    have rG := H.out.2.1
    have oX := old rX
    go_upto_if 15 with fail
    have dX := lt_heap rX
    have cb := (Chg.refl [] w3).alloc (.cells (msc (ms4 3 li false false)) 35 (0, 0))
    have rM : (w3.alloc (.cells (msc (ms4 3 li false false)) 35 (0, 0))).heap[w3.heap.size]? = some (.cells (msc (ms4 3 li false false)) 35 (0, 0)) := by simp
    have nM := H.out.new2 (k := w3.heap.size) (Nat.le_refl _)
    have mM := H.out.new3 (k := w3.heap.size) (Nat.le_refl _)
    have uM := CW.out.size
    replace H := Lib.hid (H.out.keep cb)
    replace CW := Lib.hid (CW.out.trans (weak2 cb))
    replace rX := cb.keep rX List.not_mem_nil
    clear cb
    generalize w3.heap.size = pM at rM nM mM uM dX ⊢
    generalize w3.alloc (.cells (msc (ms4 3 li false false)) 35 (0, 0)) = w5 at rM H CW rX ⊢
    have rG := H.out.2.1
    have oM := old rM
    have e1 : ¬ pX = pM := by omega
    have e2 : ¬ pM = pX := by omega
    go_wp2_with fail
    have nG := H.out.2.2.1
    go_region_held3 (fun w' => w'.heap[g]? = some (.cells #[.pointer (some ⟨a, 0, none⟩)] 60 (0, 0)) ∧ w'.heap[pX]? = some (.cells (slc x) 78 (0, 0)) ∧ w'.heap[pM]? = some (.cells (msc (ms4 3 li false false)) 35 (0, 0))) (first | exact ⟨rG, rX, rM⟩ | exact ⟨c4.keep rG nG, c4.keep rX nX, c4.keep rM nM⟩)
      (first
        | (go_at_call 39; refine (hset_any (H.out.keep (Chg.drew (Chg.refl [] w5))) hu li 7 x.l x.h).mono ?_; rintro e w4 ⟨rfl, h4, c4⟩))
    all_goals
      replace H := Lib.hid h4
      replace CW := Lib.hid (CW.out.trans (Chg.trans (Chg.drew (Chg.refl [a, b] w5)) c4))
      replace rX := c4.keep rX nX
      replace rM := c4.keep rM nM
      clear h4 c4 rG
      have rG := H.out.2.1
      go_wp2_with fail
      go_ret
      exact RgRet.one (f := fun v => v) H.out CW.out _
  · rw [if_pos (by simpa using q1), show outNx x.st = 9 by unfold outNx; rw [if_pos (by simpa using q1)]]
    go_enter Tryd.func51, Tryd.ntmps51
    try dsimp only [List.append]
    go_wp2_with fail
    refine hf.mono ?_
    clear hf
    rintro e w2 ⟨rfl, c2⟩
    replace H := Lib.hid (H.out.keep c2)
    replace CW := Lib.hid (CW.out.trans (weak2 c2))
    clear c2
    have rG := H.out.2.1
    go_upto_region 2 with fail
    have cb := (Chg.refl [] w2).alloc (.cells (slc x) 78 (0, 0))
    have rX : (w2.alloc (.cells (slc x) 78 (0, 0))).heap[w2.heap.size]? = some (.cells (slc x) 78 (0, 0)) := by simp
    have nX := H.out.new2 (k := w2.heap.size) (Nat.le_refl _)
    have mX := H.out.new3 (k := w2.heap.size) (Nat.le_refl _)
    have uX := CW.out.size
    replace H := Lib.hid (H.out.keep cb)
    replace CW := Lib.hid (CW.out.trans (weak2 cb))
    clear cb
    generalize w2.heap.size = pX at rX nX mX uX ⊢
    generalize w2.alloc (.cells (slc x) 78 (0, 0)) = w3 at rX H CW  ⊢
    have rG := H.out.2.1
    have oX := old rX
    go_upto_if 15 with fail
    have dX := lt_heap rX
    have cb := (Chg.refl [] w3).alloc (.cells (msc (ms4 3 li false false)) 35 (0, 0))
    have rM : (w3.alloc (.cells (msc (ms4 3 li false false)) 35 (0, 0))).heap[w3.heap.size]? = some (.cells (msc (ms4 3 li false false)) 35 (0, 0)) := by simp
    have nM := H.out.new2 (k := w3.heap.size) (Nat.le_refl _)
    have mM := H.out.new3 (k := w3.heap.size) (Nat.le_refl _)
    have uM := CW.out.size
    replace H := Lib.hid (H.out.keep cb)
    replace CW := Lib.hid (CW.out.trans (weak2 cb))
    replace rX := cb.keep rX List.not_mem_nil
    clear cb
    generalize w3.heap.size = pM at rM nM mM uM dX ⊢
    generalize w3.alloc (.cells (msc (ms4 3 li false false)) 35 (0, 0)) = w5 at rM H CW rX ⊢
    have rG := H.out.2.1
    have oM := old rM
    have e1 : ¬ pX = pM := by omega
    have e2 : ¬ pM = pX := by omega
    go_wp2_with fail
    go_region
    all_goals
      have cb : Chg [pM] w5 (putRow (w5.setCell ⟨pM, 2, none⟩ (.bool true)).drew pM 4 (vs x.l)) := (((Chg.refl [pM] w5).setCell _ _ _ (.inl (by simp))).drew).putRow _ _ _ (.inl (by simp))
      have rM2 : (putRow (w5.setCell ⟨pM, 2, none⟩ (.bool true)).drew pM 4 (vs x.l)).heap[pM]? = some (.cells (msc (((ms4 3 li false false).putDi true).putL x.l x.h)) 35 (0, 0)) := by simp (maxDischargeDepth := 8) [rM, hx8]
      replace rX := cb.keep rX (by simp [e1])
      replace CW := Lib.hid (CW.out.trans' cb (by simp [uM]))
      replace H := Lib.hid (H.out.apart cb mM)
      clear cb rM rG
      generalize (putRow (w5.setCell ⟨pM, 2, none⟩ (.bool true)).drew pM 4 (vs x.l)) = w6 at rX rM2 H CW ⊢
      have rM := rM2
      clear rM2
      have rG := H.out.2.1
      have oX := old rX
      have oM := old rM
      go_wp2_with fail
      have nG := H.out.2.2.1
      go_region_held3 (fun w' => w'.heap[g]? = some (.cells #[.pointer (some ⟨a, 0, none⟩)] 60 (0, 0)) ∧ w'.heap[pX]? = some (.cells (slc x) 78 (0, 0)) ∧ w'.heap[pM]? = some (.cells (msc (((ms4 3 li false false).putDi true).putL x.l x.h)) 35 (0, 0))) (first | exact ⟨rG, rX, rM⟩ | exact ⟨c4.keep rG nG, c4.keep rX nX, c4.keep rM nM⟩)
        (first
          | (go_at_call 39; refine (hset_any (H.out.keep (Chg.drew (Chg.refl [] w6))) hu li 9 x.l x.h).mono ?_; rintro e w4 ⟨rfl, h4, c4⟩))
      all_goals
        replace H := Lib.hid h4
        replace CW := Lib.hid (CW.out.trans (Chg.trans (Chg.drew (Chg.refl [a, b] w6)) c4))
        replace rX := c4.keep rX nX
        replace rM := c4.keep rM nM
        clear h4 c4 rG
        have rG := H.out.2.1
        go_wp2_with fail
        go_ret
        exact RgRet.one (f := fun v => v) H.out CW.out _
end Go.Proofs.YtadeoflkppiflaaDoor
