/- Agc: walked. No condition. -/
import Derived.Test.YtadeoflkppiflaaDoorAgb
import Derived.Test.YtadeoflkppiflaaDoorAgm
import Derived.Test.YtadeoflkppiflaaDoorArrw
import Derived.Test.YtadeoflkppiflaaDoorMsgr
import Derived.BigQuiet
import Derived.Deep.RegionWith
import Derived.Deep.RegionHeld3
import Derived.Deep.QuietTactic
import Derived.Deep.Cut
import Derived.Deep.CutBlock
import Derived.Deep.CutRange
import Derived.Deep.DeepCutAuto
namespace Go.Proofs.YtadeoflkppiflaaDoor
open Go.RowKit
set_option linter.unusedVariables false
set_option maxHeartbeats 1000000
attribute [local go_sem ↓] append_appS copy_copS clear_clrS make_mkS cell_row frozen_row loadLine storeLine loadSlot storeSlot heap_drew heap_drewN heap_alloc heap_past heap_setCell heap_putRow vs_get slc_st slc_li slc_us slice_slS loadMsg storeMsg loadHas storeHas msc_kd msc_li msc_di msc_ke
attribute [local go_sem] rowCell_some rowFrozen_some rowHas_some rowIn_some rowPart_full rowPart_lit rowPut_full rowPut_lit rowSet_some size_putRow vs_size vs_one wideLine wideSlot run_loadS run_storeS run_appS run_copS run_clrS run_mkS loadW_at storeW_at fit_all fit_le one_int one_bool one_pointer one_slice allOne_list putRow_new ne_size1 ne_size2 ne_size3 ne_size4 zero8_length line_eq lit8 slc_size slc_one slc_part slc_in fold_slt fold_slc slc_set_us wideMsg wideHas run_slS msc_size msc_one msc_part msc_in fold_msc msc_putDi msc_putKe msc_putX msc_has ms4_lit ms4_k ms4_l ms4_e
attribute [local simp ↓] heap_drew heap_drewN heap_alloc heap_past heap_setCell heap_putRow
attribute [local simp] rowCell_some rowFrozen_some rowHas_some rowIn_some rowPart_full rowPart_lit rowPut_full rowPut_lit rowSet_some size_putRow vs_size fit_all putRow_new ne_size1 ne_size2 ne_size3 ne_size4 zero8_length slc_size msc_size msc_putDi msc_putKe msc_putX msc_has fit_le ms4_k ms4_l ms4_e


section
variable {W w w1 : World} {g a b S N : Nat} {s : Sta} {f : Value → Value}
theorem AgRet.one (h : Agt W w1 g a b S N s) (hc : Chg [a, b] w w1) (m : Ms) : AgRet W w g a b S N s f [m] (.returned (f (.slice (some ⟨w1.heap.size, 0, none⟩) 1 1))) (w1.alloc (.cells (msc m) 35)) :=
  ⟨_, 1, rfl, (Told.one w1 m).from hc.size, h.keep ((Chg.refl [] w1).alloc _), hc.alloc _⟩
theorem AgRet.nil (h : Agt W w1 g a b S N s) (hc : Chg [a, b] w w1) : AgRet W w g a b S N s f [] (.returned (f (.slice none 0 0))) w1 :=
  ⟨none, 0, rfl, Told.nil _ _, h, hc⟩
theorem weak2 (h : Chg [] w w1) : Chg [a, b] w w1 := h.mono (by simp)
end
theorem out_yes {S N : Nat} {s : Sta} {li : Int} (h : atRest (findVal s.1 li).st = true) : outF S N s li = (setS S N s li (outNx (findVal s.1 li).st) (findVal s.1 li).l (findVal s.1 li).h, [toldM 3 (findVal s.1 li) false]) := by unfold outF; rw [if_pos h]
theorem out_no {S N : Nat} {s : Sta} {li : Int} (h : atRest (findVal s.1 li).st = false) : outF S N s li = (s, []) := by unfold outF; rw [if_neg (by simp [h])]
theorem gout_any {W : World} {g a b S N : Nat} {s : Sta} (li : Int) (w : World) (h : Agt W w g a b S N s) (hu : s.2 ≤ 1000000000) : Calls Tryd.prog 50 #[.pointer (some ⟨g, 0, none⟩), .int .i64 li] w (AgRet W w g a b S N (outF S N s li).1 (fun v => v) (outF S N s li).2) := by
  have H := Lib.hid h
  have rG := h.2.1
  have CW := Lib.hid (Chg.refl [a, b] w)
  clear h
  have hf := gfind_any H.out li
  cases hr : atRest (findVal s.1 li).st
  · rw [out_no hr]
    generalize findVal s.1 li = x at hf hr
    go_enter Tryd.func50, Tryd.ntmps50
    try dsimp only [List.append]
    go_wp2_with fail
    refine hf.mono ?_
    clear hf
    rintro e w2 ⟨rfl, c2⟩
    go_wp2_with (go_at_call 54; refine (grest_at _ _ hr _).mono ?_; rintro e w' ⟨rfl, rfl⟩)
    go_ret
    exact AgRet.nil (f := fun v => v) (H.out.keep (c2.alloc _)) (weak2 (c2.alloc _))
  · rw [out_yes hr]
    generalize findVal s.1 li = x at hf hr
    have hx8 := x.h
    have q : ((x.st == 3) = true ∧ outNx x.st = 9) ∨ ((x.st == 3) = false ∧ outNx x.st = 7) := by
      unfold outNx
      cases h3 : (x.st == 3)
      · exact .inr ⟨rfl, by rw [if_neg (by simpa using h3)]⟩
      · exact .inl ⟨rfl, by rw [if_pos (by simpa using h3)]⟩
    rcases q with ⟨q1, q2⟩ | ⟨q1, q2⟩
    all_goals
      rw [q2]
      clear q2
      go_enter Tryd.func50, Tryd.ntmps50
      try dsimp only [List.append]
      go_wp2_with fail
      refine hf.mono ?_
      clear hf
      rintro e w2 ⟨rfl, c2⟩
      replace H := Lib.hid (H.out.keep c2)
      replace CW := Lib.hid (CW.out.trans (weak2 c2))
      clear c2
      have rG := H.out.2.1
      go_wp2_with fail
      have cb := (Chg.refl [] w2).alloc (.cells (slc x) 72 (0, 0))
      have rX : (w2.alloc (.cells (slc x) 72 (0, 0))).heap[w2.heap.size]? = some (.cells (slc x) 72 (0, 0)) := by simp
      have nX := H.out.new2 (k := w2.heap.size) (Nat.le_refl _)
      have mX := H.out.new3 (k := w2.heap.size) (Nat.le_refl _)
      have vX := H.out.1.1.size
      have uXx := CW.out.size
      replace H := Lib.hid (H.out.keep cb)
      replace CW := Lib.hid (CW.out.trans (weak2 cb))
      clear cb
      generalize w2.heap.size = pX at rX nX mX vX uXx ⊢
      generalize w2.alloc (.cells (slc x) 72 (0, 0)) = w3 at rX H CW ⊢
      have rG := H.out.2.1
      have oX := old rX
      refine (grest_at _ _ hr _).mono ?_
      rintro e w' ⟨rfl, rfl⟩
      go_wp2_with fail
      have nG := H.out.2.2.2.1
      go_region_held3 (fun w' => w'.heap[g]? = some (.cells #[.pointer (some ⟨a, 0, none⟩)] 68 (0, 0)) ∧ w'.heap[pX]? = some (.cells (slc x) 72 (0, 0))) (first | exact ⟨rG, rX⟩ | exact ⟨c4.keep rG nG, c4.keep rX nX⟩)
        (first
          | (go_at_call 38; refine (gset_any (H.out.keep (Chg.drew (Chg.refl [] w3))) hu li _ x.l x.h).mono ?_; rintro e w4 ⟨rfl, h4, c4⟩))
      all_goals
        replace H := Lib.hid h4
        replace CW := Lib.hid (CW.out.trans (Chg.trans (Chg.drew (Chg.refl [a, b] w3)) c4))
        replace rX := c4.keep rX nX
        clear h4 c4 rG
        have rG := H.out.2.1
        go_wp2_with fail
        refine (gtold_any 3 x _).mono ?_
        rintro e w5 ⟨rfl, c5⟩
        go_wp2_with fail
        go_ret
        exact AgRet.one (f := fun v => v) (H.out.keep c5) (CW.out.trans (weak2 c5)) _
end Go.Proofs.YtadeoflkppiflaaDoor
