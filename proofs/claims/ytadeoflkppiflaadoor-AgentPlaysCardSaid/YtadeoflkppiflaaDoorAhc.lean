/- Ahc: walked. No condition. -/
import Derived.Test.YtadeoflkppiflaaDoorAhb
import Derived.Test.YtadeoflkppiflaaDoorAgm
import Derived.Test.YtadeoflkppiflaaDoorArrw
import Derived.Test.YtadeoflkppiflaaDoorMsgr
import Derived.BigQuiet
import Derived.Deep.RegionWith
import Derived.Deep.RegionHeld3
import Derived.Deep.QuietTactic
import Derived.Deep.Cut
import Derived.Deep.CutBlock
import Derived.Deep.CutRange
import Derived.Deep.DeepCutAuto
namespace Go.Proofs.YtadeoflkppiflaaDoor
open Go.RowKit
set_option linter.unusedVariables false
set_option maxHeartbeats 1000000
attribute [local go_sem ↓] append_appS copy_copS clear_clrS make_mkS cell_row frozen_row loadLine storeLine loadSlot storeSlot heap_drew heap_drewN heap_alloc heap_past heap_setCell heap_putRow vs_get slc_st slc_li slc_us slice_slS loadMsg storeMsg loadHas storeHas msc_kd msc_li msc_di msc_ke
attribute [local go_sem] rowCell_some rowFrozen_some rowHas_some rowIn_some rowPart_full rowPart_lit rowPut_full rowPut_lit rowSet_some size_putRow vs_size vs_one wideLine wideSlot run_loadS run_storeS run_appS run_copS run_clrS run_mkS loadW_at storeW_at fit_all fit_le one_int one_bool one_pointer one_slice allOne_list putRow_new ne_size1 ne_size2 ne_size3 ne_size4 zero8_length line_eq lit8 slc_size slc_one slc_part slc_in fold_slt fold_slc slc_set_us wideMsg wideHas run_slS msc_size msc_one msc_part msc_in fold_msc msc_putDi msc_putKe msc_putX msc_has ms4_lit ms4_k ms4_l ms4_e
attribute [local simp ↓] heap_drew heap_drewN heap_alloc heap_past heap_setCell heap_putRow
attribute [local simp] rowCell_some rowFrozen_some rowHas_some rowIn_some rowPart_full rowPart_lit rowPut_full rowPut_lit rowSet_some size_putRow vs_size fit_all putRow_new ne_size1 ne_size2 ne_size3 ne_size4 zero8_length slc_size msc_size msc_putDi msc_putKe msc_putX msc_has fit_le ms4_k ms4_l ms4_e


attribute [local go_sem ↓] loadRSlot storeRSlot field_st field_ln
attribute [local go_sem] wideRSlot
theorem free_room {S N : Nat} {xs : List Slt} {li : Int} (h0 : 0 ≤ li) : roomFree S N xs li = decide (0 ≤ freeI S N xs li) := by
  unfold roomFree freeI
  by_cases h : (seg N xs (setOf S li)).findIdx pFree < N
  · rw [if_pos h, decide_eq_true (show (0 : Int) ≤ ((setOf S li * N + (seg N xs (setOf S li)).findIdx pFree : Nat) : Int) from Int.natCast_nonneg _)]
    simp [h0, h]
  · rw [if_neg h]; simp [h]
theorem free_vic {S N : Nat} {xs : List Slt} {li : Int} (h0 : 0 ≤ li) (h : roomFree S N xs li = false) : roomVic S N xs li = eld (seg N xs (setOf S li)) := by
  unfold roomFree at h
  unfold roomVic
  rw [if_neg (by omega), if_neg]
  intro h1
  simp [h0, h1] at h
theorem hmiss_no {g a b S N : Nat} {s : Sta} (li st kd : Int) (hi : idleB s.1 = false) (w : World) (h : RAg w g a b S N s) : Calls Tryd.prog 36 #[.pointer (some ⟨g, 0, none⟩), .int .i64 li, .int .i64 st, .int .i64 kd] w (RgRet w g a b S N s (fun v => v) []) := by
  have H := Lib.hid h
  have rG := h.2.1
  have CW := Lib.hid (Chg.refl [a, b] w)
  clear h
  go_enter Tryd.func36, Tryd.ntmps36
  try dsimp only [List.append]
  go_wp2_with fail
  refine (hidle_at _ hi w H.out).mono ?_
  rintro e w2 ⟨rfl, c2⟩
  go_wp2_with fail
  go_ret
  exact RgRet.nil (f := fun v => v) (H.out.keep c2) (weak2 c2)
theorem hmiss_any {g a b S N : Nat} {s : Sta} (li st kd : Int) (hi : idleB s.1 = true) (h0 : 0 ≤ li) (w : World) (h : RAg w g a b S N s) (hu : s.2 ≤ 1000000000) : Calls Tryd.prog 36 #[.pointer (some ⟨g, 0, none⟩), .int .i64 li, .int .i64 st, .int .i64 kd] w (RgRet w g a b S N (getF S N s li st kd).1 (fun v => v) (getF S N s li st kd).2) := by
  have H := Lib.hid h
  have rG := h.2.1
  have CW := Lib.hid (Chg.refl [a, b] w)
  clear h
  have hfr := fun W' hW => rfree_ok a b S N s.1 s.2 li W' hW h0
  have hfm := free_room (S := S) (N := N) (xs := s.1) h0
  cases hr : roomFree S N s.1 li
  · have t1 : decide (0 ≤ freeI S N s.1 li) = false := by rw [← hfm]; exact hr
    have hv := free_vic h0 hr
    have hvi := fun W' hW => rvictim_ok a b S N s.1 s.2 li W' hW h0
    rw [show getF S N s li st kd = outF S N s (roomVic S N s.1 li) by unfold getF; rw [if_neg (by simp [hr])], hv]
    have hre := eld_rest (N := N) (t := setOf S li) hi
    generalize eld (seg N s.1 (setOf S li)) = v at hvi hre
    clear hv hfm
    cases t2 : decide (0 ≤ v)
    · rw [outF_none H.out.good (by simpa using t2)]
      go_enter Tryd.func36, Tryd.ntmps36
      try dsimp only [List.append]
      go_wp2_with fail
      refine (hidle_at _ hi w H.out).mono ?_
      rintro e w2 ⟨rfl, c2⟩
      replace H := Lib.hid (H.out.keep c2)
      replace CW := Lib.hid (CW.out.trans (weak2 c2))
      clear c2
      have rG := H.out.2.1
      go_wp2_with fail
      refine (hfr w2 H.out.arr).mono ?_
      rintro e w3 ⟨rfl, c3⟩
      replace H := Lib.hid (H.out.keep c3)
      replace CW := Lib.hid (CW.out.trans (weak2 c3))
      clear c3
      have rG := H.out.2.1
      go_wp2_with fail
      refine (hvi w3 H.out.arr).mono ?_
      rintro e w4 ⟨rfl, c4⟩
      replace H := Lib.hid (H.out.keep c4)
      replace CW := Lib.hid (CW.out.trans (weak2 c4))
      clear c4
      have rG := H.out.2.1
      go_wp2_with fail
      go_ret
      exact RgRet.nil (f := fun v => v) H.out CW.out
    · have hrr := hre (by simpa using t2)
      clear hre
      go_enter Tryd.func36, Tryd.ntmps36
      try dsimp only [List.append]
      go_wp2_with fail
      refine (hidle_at _ hi w H.out).mono ?_
      rintro e w2 ⟨rfl, c2⟩
      replace H := Lib.hid (H.out.keep c2)
      replace CW := Lib.hid (CW.out.trans (weak2 c2))
      clear c2
      have rG := H.out.2.1
      go_wp2_with fail
      refine (hfr w2 H.out.arr).mono ?_
      rintro e w3 ⟨rfl, c3⟩
      replace H := Lib.hid (H.out.keep c3)
      replace CW := Lib.hid (CW.out.trans (weak2 c3))
      clear c3
      have rG := H.out.2.1
      go_wp2_with fail
      refine (hvi w3 H.out.arr).mono ?_
      rintro e w4 ⟨rfl, c4⟩
      replace H := Lib.hid (H.out.keep c4)
      replace CW := Lib.hid (CW.out.trans (weak2 c4))
      clear c4
      have rG := H.out.2.1
      go_wp2_with fail
      refine (hout_any v hrr w4 H.out hu).mono ?_
      rintro e w5 ⟨A, n, rfl, h1, h2, h3⟩
      go_wp2_with fail
      go_ret
      exact ⟨A, n, rfl, h1.from CW.out.size, h2, CW.out.trans h3⟩
  · have t1 : decide (0 ≤ freeI S N s.1 li) = true := by rw [← hfm]; exact hr
    rw [show getF S N s li st kd = (setS S N s li st zl8 rfl, [ms4 kd li false false]) by unfold getF; rw [if_pos hr]]
    clear hfm
    go_enter Tryd.func36, Tryd.ntmps36
    try dsimp only [List.append]
    go_wp2_with fail
    refine (hidle_at _ hi w H.out).mono ?_
    rintro e w2 ⟨rfl, c2⟩
    replace H := Lib.hid (H.out.keep c2)
    replace CW := Lib.hid (CW.out.trans (weak2 c2))
    clear c2
    have rG := H.out.2.1
    go_wp2_with fail
    refine (hfr w2 H.out.arr).mono ?_
    rintro e w3 ⟨rfl, c3⟩
    replace H := Lib.hid (H.out.keep c3)
    replace CW := Lib.hid (CW.out.trans (weak2 c3))
    clear c3
    have rG := H.out.2.1
    go_wp2_with fail
    refine (hsetz_any H.out hu li st).mono ?_
    rintro e w4 ⟨rfl, h4, c4⟩
    replace H := Lib.hid h4
    replace CW := Lib.hid (CW.out.trans c4)
    go_wp2_with fail
    refine (hone_any kd li w4).mono ?_
    rintro e w5 ⟨A, n, rfl, h1, c5⟩
    go_wp2_with fail
    go_ret
    exact RgRet.ms (f := fun v => v) H.out CW.out h1 c5
theorem hthere_at (li k : Int) (v : Bool) (h : (isLn li && isWd k) = v) (w : World) : Calls Tryd.prog 33 #[.int .i64 li, .int .i64 k] w fun e w' => e = .returned (.bool v) ∧ w = w' := h ▸ hthere_any li k w
theorem hreach_any {g a b S N : Nat} {s : Sta} (li : Int) (w : World) (h : RAg w g a b S N s) (hu : s.2 ≤ 1000000000) : Calls Tryd.prog 17 #[.pointer (some ⟨g, 0, none⟩), .int .i64 li] w (RgRet w g a b S N (reachF S N s li).1 (fun v => v) (reachF S N s li).2) := by
  have H := Lib.hid h
  have rG := h.2.1
  have CW := Lib.hid (Chg.refl [a, b] w)
  clear h
  have hsl := fun W' hW => hslot_any (g := g) (a := a) (b := b) (S := S) (N := N) (s := s) li W' hW
  cases tl : isLn li
  · have t1 : (isLn li && isWd 0) = false := by rw [tl]; rfl
    rw [show reachF S N s li = (s, []) by unfold reachF; rw [if_neg (by simp [tl])]]
    go_enter Tryd.func17, Tryd.ntmps17
    try dsimp only [List.append]
    go_wp2_with (go_at_call 33; refine (hthere_at _ _ _ t1 _).mono ?_; rintro e w' ⟨rfl, rfl⟩)
    go_ret
    exact RgRet.nil (f := fun v => v) H.out CW.out
  have t1 : (isLn li && isWd 0) = true := by rw [tl]; rfl
  have h0 : 0 ≤ li := by simp [isLn] at tl; exact tl.1
  cases ho : ownsB s.1 li
  rotate_left
  · rw [show reachF S N s li = (s, []) by unfold reachF; rw [if_neg (by simp [ho])]]
    go_enter Tryd.func17, Tryd.ntmps17
    try dsimp only [List.append]
    go_wp2_with (go_at_call 33; refine (hthere_at _ _ _ t1 _).mono ?_; rintro e w' ⟨rfl, rfl⟩)
    refine (howns_at li _ ho w H.out).mono ?_
    rintro e w2 ⟨rfl, c2⟩
    replace H := Lib.hid (H.out.keep c2)
    replace CW := Lib.hid (CW.out.trans (weak2 c2))
    clear c2
    have rG := H.out.2.1
    go_wp2_with fail
    go_ret
    exact RgRet.nil (f := fun v => v) H.out CW.out
  cases hi : idleB s.1
  · rw [show reachF S N s li = (s, []) by unfold reachF; rw [if_neg (by simp [hi])]]
    go_enter Tryd.func17, Tryd.ntmps17
    try dsimp only [List.append]
    go_wp2_with (go_at_call 33; refine (hthere_at _ _ _ t1 _).mono ?_; rintro e w' ⟨rfl, rfl⟩)
    refine (howns_at li _ ho w H.out).mono ?_
    rintro e w2 ⟨rfl, c2⟩
    replace H := Lib.hid (H.out.keep c2)
    replace CW := Lib.hid (CW.out.trans (weak2 c2))
    clear c2
    have rG := H.out.2.1
    go_wp2_with fail
    refine (hidle_at _ hi w2 H.out).mono ?_
    rintro e w3 ⟨rfl, c2⟩
    replace H := Lib.hid (H.out.keep c2)
    replace CW := Lib.hid (CW.out.trans (weak2 c2))
    clear c2
    have rG := H.out.2.1
    go_wp2_with fail
    go_ret
    exact RgRet.nil (f := fun v => v) H.out CW.out
  have hgo : (isLn li && !ownsB s.1 li && idleB s.1) = true := by simp [tl, ho, hi]
  have hst : dropVal s.1 li = ((findVal s.1 li).st == 1) := by
    rw [find_drop]
    unfold ownsB mayWr at ho
    rcases idle_find hi li with h | h
    · rw [h]; rfl
    · have := (rest_iff _).1 h
      have h1 : (findVal s.1 li).st = 1 := by simp at ho; omega
      rw [h1]; rfl
  cases q1 : ((findVal s.1 li).st == 1)
  · rw [show reachF S N s li = getF S N s li 5 2 by unfold reachF; rw [if_pos hgo, if_neg (by rw [hst, q1]; simp)]]
    clear hgo hst
    generalize findVal s.1 li = x at hsl q1
    go_enter Tryd.func17, Tryd.ntmps17
    try dsimp only [List.append]
    go_wp2_with (go_at_call 33; refine (hthere_at _ _ _ t1 _).mono ?_; rintro e w' ⟨rfl, rfl⟩)
    refine (howns_at li _ ho w H.out).mono ?_
    rintro e w2 ⟨rfl, c2⟩
    replace H := Lib.hid (H.out.keep c2)
    replace CW := Lib.hid (CW.out.trans (weak2 c2))
    clear c2
    have rG := H.out.2.1
    go_wp2_with fail
    refine (hidle_at _ hi w2 H.out).mono ?_
    rintro e w3 ⟨rfl, c2⟩
    replace H := Lib.hid (H.out.keep c2)
    replace CW := Lib.hid (CW.out.trans (weak2 c2))
    clear c2
    have rG := H.out.2.1
    go_wp2_with fail
    refine (hsl w3 H.out).mono ?_
    clear hsl
    rintro e w4 ⟨rfl, c4⟩
    replace H := Lib.hid (H.out.keep c4)
    replace CW := Lib.hid (CW.out.trans (weak2 c4))
    clear c4
    have rG := H.out.2.1
    go_wp2_with fail
    have cb := (Chg.refl [] w4).alloc (.cells (slc x) 78 (0, 0))
    have rX : (w4.alloc (.cells (slc x) 78 (0, 0))).heap[w4.heap.size]? = some (.cells (slc x) 78 (0, 0)) := by simp
    have nX := H.out.new2 (k := w4.heap.size) (Nat.le_refl _)
    have mX := H.out.new3 (k := w4.heap.size) (Nat.le_refl _)
    have uX := CW.out.size
    replace H := Lib.hid (H.out.keep cb)
    replace CW := Lib.hid (CW.out.trans (weak2 cb))
    clear cb
    generalize w4.heap.size = pX at rX nX mX uX ⊢
    generalize w4.alloc (.cells (slc x) 78 (0, 0)) = w5 at rX H CW  ⊢
    have rG := H.out.2.1
    have oX := old rX
    go_wp2_with fail
    refine (hmiss_any li 5 2 hi h0 w5 H.out hu).mono ?_
    rintro e w6 ⟨A, n, rfl, h1, h2, h3⟩
    go_wp2_with fail
    go_ret
    exact ⟨A, n, rfl, h1.from CW.out.size, h2, CW.out.trans h3⟩
  · rw [show reachF S N s li = (setS S N s li 6 (findVal s.1 li).l (findVal s.1 li).h, [ms4 2 li false false]) by unfold reachF; rw [if_pos hgo, if_pos (by rw [hst, q1])]]
    clear hgo hst
    generalize findVal s.1 li = x at hsl q1
    go_enter Tryd.func17, Tryd.ntmps17
    try dsimp only [List.append]
    go_wp2_with (go_at_call 33; refine (hthere_at _ _ _ t1 _).mono ?_; rintro e w' ⟨rfl, rfl⟩)
    refine (howns_at li _ ho w H.out).mono ?_
    rintro e w2 ⟨rfl, c2⟩
    replace H := Lib.hid (H.out.keep c2)
    replace CW := Lib.hid (CW.out.trans (weak2 c2))
    clear c2
    have rG := H.out.2.1
    go_wp2_with fail
    refine (hidle_at _ hi w2 H.out).mono ?_
    rintro e w3 ⟨rfl, c2⟩
    replace H := Lib.hid (H.out.keep c2)
    replace CW := Lib.hid (CW.out.trans (weak2 c2))
    clear c2
    have rG := H.out.2.1
    go_wp2_with fail
    refine (hsl w3 H.out).mono ?_
    clear hsl
    rintro e w4 ⟨rfl, c4⟩
    replace H := Lib.hid (H.out.keep c4)
    replace CW := Lib.hid (CW.out.trans (weak2 c4))
    clear c4
    have rG := H.out.2.1
    go_wp2_with fail
    have cb := (Chg.refl [] w4).alloc (.cells (slc x) 78 (0, 0))
    have rX : (w4.alloc (.cells (slc x) 78 (0, 0))).heap[w4.heap.size]? = some (.cells (slc x) 78 (0, 0)) := by simp
    have nX := H.out.new2 (k := w4.heap.size) (Nat.le_refl _)
    have mX := H.out.new3 (k := w4.heap.size) (Nat.le_refl _)
    have uX := CW.out.size
    replace H := Lib.hid (H.out.keep cb)
    replace CW := Lib.hid (CW.out.trans (weak2 cb))
    clear cb
    generalize w4.heap.size = pX at rX nX mX uX ⊢
    generalize w4.alloc (.cells (slc x) 78 (0, 0)) = w5 at rX H CW  ⊢
    have rG := H.out.2.1
    have oX := old rX
    go_wp2_with fail
    have nG := H.out.2.2.1
    go_region_held3 (fun w' => w'.heap[g]? = some (.cells #[.pointer (some ⟨a, 0, none⟩)] 60 (0, 0)) ∧ w'.heap[pX]? = some (.cells (slc x) 78 (0, 0))) (first | exact ⟨rG, rX⟩ | exact ⟨c4.keep rG nG, c4.keep rX nX⟩)
      (first
        | (go_at_call 39; refine (hset_any (H.out.keep (Chg.drew (Chg.refl [] w5))) hu li 6 x.l x.h).mono ?_; rintro e w4 ⟨rfl, h4, c4⟩))
    all_goals
      replace H := Lib.hid h4
      replace CW := Lib.hid (CW.out.trans (Chg.trans (Chg.drew (Chg.refl [a, b] w5)) c4))
      replace rX := c4.keep rX nX
      clear h4 c4 rG
      have rG := H.out.2.1
      go_wp2_with fail
      refine (hone_any 2 li _).mono ?_
      rintro e w6 ⟨A, n, rfl, h1, c6⟩
      go_wp2_with fail
      go_ret
      exact RgRet.ms (f := fun v => v) H.out CW.out h1 c6
end Go.Proofs.YtadeoflkppiflaaDoor
