/- Agd: walked. No condition. -/
import Derived.Test.YtadeoflkppiflaaDoorAgc
import Derived.Test.YtadeoflkppiflaaDoorAgm
import Derived.Test.YtadeoflkppiflaaDoorArrw
import Derived.Test.YtadeoflkppiflaaDoorMsgr
import Derived.BigQuiet
import Derived.Deep.RegionWith
import Derived.Deep.RegionHeld3
import Derived.Deep.QuietTactic
import Derived.Deep.Cut
import Derived.Deep.CutBlock
import Derived.Deep.CutRange
import Derived.Deep.DeepCutAuto
namespace Go.Proofs.YtadeoflkppiflaaDoor
open Go.RowKit
set_option linter.unusedVariables false
set_option maxHeartbeats 1000000
attribute [local go_sem ↓] append_appS copy_copS clear_clrS make_mkS cell_row frozen_row loadLine storeLine loadSlot storeSlot heap_drew heap_drewN heap_alloc heap_past heap_setCell heap_putRow vs_get slc_st slc_li slc_us slice_slS loadMsg storeMsg loadHas storeHas msc_kd msc_li msc_di msc_ke
attribute [local go_sem] rowCell_some rowFrozen_some rowHas_some rowIn_some rowPart_full rowPart_lit rowPut_full rowPut_lit rowSet_some size_putRow vs_size vs_one wideLine wideSlot run_loadS run_storeS run_appS run_copS run_clrS run_mkS loadW_at storeW_at fit_all fit_le one_int one_bool one_pointer one_slice allOne_list putRow_new ne_size1 ne_size2 ne_size3 ne_size4 zero8_length line_eq lit8 slc_size slc_one slc_part slc_in fold_slt fold_slc slc_set_us wideMsg wideHas run_slS msc_size msc_one msc_part msc_in fold_msc msc_putDi msc_putKe msc_putX msc_has ms4_lit ms4_k ms4_l ms4_e
attribute [local simp ↓] heap_drew heap_drewN heap_alloc heap_past heap_setCell heap_putRow
attribute [local simp] rowCell_some rowFrozen_some rowHas_some rowIn_some rowPart_full rowPart_lit rowPut_full rowPut_lit rowSet_some size_putRow vs_size fit_all putRow_new ne_size1 ne_size2 ne_size3 ne_size4 zero8_length slc_size msc_size msc_putDi msc_putKe msc_putX msc_has fit_le ms4_k ms4_l ms4_e

theorem gget_any {W : World} {g a b S N : Nat} {s : Sta} (li st kd : Int) (w : World) (h : Agt W w g a b S N s) (hu : s.2 ≤ 1000000000) : Calls Tryd.prog 32 #[.pointer (some ⟨g, 0, none⟩), .int .i64 li, .int .i64 st, .int .i64 kd] w (AgRet W w g a b S N (getF S N s li st kd).1 (fun v => v) (getF S N s li st kd).2) := by
  have H := Lib.hid h
  have rG := h.2.1
  have CW := Lib.hid (Chg.refl [a, b] w)
  clear h
  have hf := groom_any H.out li
  cases hr : roomFree S N s.1 li
  · rw [show getF S N s li st kd = outF S N s (roomVic S N s.1 li) by unfold getF; rw [if_neg (by simp [hr])]]
    rw [hr] at hf
    generalize roomVic S N s.1 li = v at hf
    go_enter Tryd.func32, Tryd.ntmps32
    try dsimp only [List.append]
    go_wp2_with fail
    refine hf.mono ?_
    clear hf
    rintro e w2 ⟨rfl, c2⟩
    replace H := Lib.hid (H.out.keep c2)
    replace CW := Lib.hid (CW.out.trans (weak2 c2))
    clear c2
    have rG := H.out.2.1
    go_wp2_with fail
    refine (gout_any v w2 H.out hu).mono ?_
    rintro e w3 ⟨A, n, rfl, h1, h2, h3⟩
    go_wp2_with fail
    go_ret
    exact ⟨A, n, rfl, h1.from CW.out.size, h2, CW.out.trans h3⟩
  · rw [show getF S N s li st kd = (setS S N s li st zl8 rfl, [ms4 kd li false false]) by unfold getF; rw [if_pos hr]]
    rw [hr] at hf
    generalize roomVic S N s.1 li = v at hf
    go_enter Tryd.func32, Tryd.ntmps32
    try dsimp only [List.append]
    go_wp2_with fail
    refine hf.mono ?_
    clear hf
    rintro e w2 ⟨rfl, c2⟩
    replace H := Lib.hid (H.out.keep c2)
    replace CW := Lib.hid (CW.out.trans (weak2 c2))
    clear c2
    have rG := H.out.2.1
    go_wp2_with fail
    refine (gsetz_any H.out hu li st).mono ?_
    rintro e w4 ⟨rfl, h4, c4⟩
    go_wp2_with fail
    go_ret
    exact AgRet.one (f := fun v => v) h4 (CW.out.trans c4) _
theorem gload_any {W : World} {g a b S N : Nat} {s : Sta} (li k : Int) (w : World) (h : Agt W w g a b S N s) (hu : s.2 ≤ 1000000000) : Calls Tryd.prog 7 #[.pointer (some ⟨g, 0, none⟩), .int .i64 li, .int .i64 k] w (AgRet W w g a b S N (loadF S N s li k).1 (fun v => .tuple #[.int .u64 (loadF S N s li k).2.1, .bool (loadF S N s li k).2.2.1, v]) (loadF S N s li k).2.2.2) := by
  have H := Lib.hid h
  have rG := h.2.1
  have CW := Lib.hid (Chg.refl [a, b] w)
  clear h
  have hf := gfind_any H.out li
  cases t1 : isLn li
  · rw [show loadF S N s li k = (s, (0, false, [])) by unfold loadF; rw [if_neg (by simp [t1])]]
    go_enter Tryd.func7, Tryd.ntmps7
    try dsimp only [List.append]
    go_wp2_with (first | (go_at_call 27; refine (gline_at _ _ t1 _).mono ?_; rintro e w' ⟨rfl, rfl⟩) | (go_at_call 28; refine (gword_at _ _ t2 _).mono ?_; rintro e w' ⟨rfl, rfl⟩))
    go_ret3
    exact AgRet.nil (f := fun v => .tuple #[.int .u64 0, .bool false, v]) H.out CW.out
  cases t2 : isWd k
  · rw [show loadF S N s li k = (s, (0, false, [])) by unfold loadF; rw [if_neg (by simp [t2])]]
    go_enter Tryd.func7, Tryd.ntmps7
    try dsimp only [List.append]
    go_wp2_with (first | (go_at_call 27; refine (gline_at _ _ t1 _).mono ?_; rintro e w' ⟨rfl, rfl⟩) | (go_at_call 28; refine (gword_at _ _ t2 _).mono ?_; rintro e w' ⟨rfl, rfl⟩))
    go_ret3
    exact AgRet.nil (f := fun v => .tuple #[.int .u64 0, .bool false, v]) H.out CW.out
  obtain ⟨K, hK, rfl⟩ : ∃ K : Nat, K < 8 ∧ k = K := by simp [isWd] at t2; exact ⟨k.toNat, by omega, by omega⟩
  cases hm : mayR (findVal s.1 li).st
  · cases hi : idleB s.1
    · rw [show loadF S N s li K = (s, (0, false, [])) by unfold loadF; rw [if_pos (by simp [t1, t2]), if_neg (by simp [hm]), if_neg (by simp [hi])]]
      generalize findVal s.1 li = x at hf hm
      go_enter Tryd.func7, Tryd.ntmps7
      try dsimp only [List.append]
      go_wp2_with (first | (go_at_call 27; refine (gline_at _ _ t1 _).mono ?_; rintro e w' ⟨rfl, rfl⟩) | (go_at_call 28; refine (gword_at _ _ t2 _).mono ?_; rintro e w' ⟨rfl, rfl⟩))
      refine hf.mono ?_
      clear hf
      rintro e w2 ⟨rfl, c2⟩
      replace H := Lib.hid (H.out.keep c2)
      replace CW := Lib.hid (CW.out.trans (weak2 c2))
      clear c2
      have rG := H.out.2.1
      go_wp2_with fail
      have cb := (Chg.refl [] w2).alloc (.cells (slc x) 72 (0, 0))
      have rX : (w2.alloc (.cells (slc x) 72 (0, 0))).heap[w2.heap.size]? = some (.cells (slc x) 72 (0, 0)) := by simp
      have nX := H.out.new2 (k := w2.heap.size) (Nat.le_refl _)
      have mX := H.out.new3 (k := w2.heap.size) (Nat.le_refl _)
      have vX := H.out.1.1.size
      have uXx := CW.out.size
      replace H := Lib.hid (H.out.keep cb)
      replace CW := Lib.hid (CW.out.trans (weak2 cb))
      clear cb
      generalize w2.heap.size = pX at rX nX mX vX uXx ⊢
      generalize w2.alloc (.cells (slc x) 72 (0, 0)) = w3 at rX H CW ⊢
      have rG := H.out.2.1
      have oX := old rX
      refine (gread_at _ _ hm _).mono ?_
      rintro e w' ⟨rfl, rfl⟩
      go_wp2_with fail
      refine (gidle_at _ hi w3 H.out).mono ?_
      rintro e w4 ⟨rfl, c4⟩
      go_wp2_with fail
      go_ret3
      exact AgRet.nil (f := fun v => .tuple #[.int .u64 0, .bool false, v]) (H.out.keep c4) (CW.out.trans (weak2 c4))
    · rw [show loadF S N s li K = ((getF S N s li 4 1).1, (0, false, (getF S N s li 4 1).2)) by unfold loadF; rw [if_pos (by simp [t1, t2]), if_neg (by simp [hm]), if_pos hi]]
      generalize findVal s.1 li = x at hf hm
      go_enter Tryd.func7, Tryd.ntmps7
      try dsimp only [List.append]
      go_wp2_with (first | (go_at_call 27; refine (gline_at _ _ t1 _).mono ?_; rintro e w' ⟨rfl, rfl⟩) | (go_at_call 28; refine (gword_at _ _ t2 _).mono ?_; rintro e w' ⟨rfl, rfl⟩))
      refine hf.mono ?_
      clear hf
      rintro e w2 ⟨rfl, c2⟩
      replace H := Lib.hid (H.out.keep c2)
      replace CW := Lib.hid (CW.out.trans (weak2 c2))
      clear c2
      have rG := H.out.2.1
      go_wp2_with fail
      have cb := (Chg.refl [] w2).alloc (.cells (slc x) 72 (0, 0))
      have rX : (w2.alloc (.cells (slc x) 72 (0, 0))).heap[w2.heap.size]? = some (.cells (slc x) 72 (0, 0)) := by simp
      have nX := H.out.new2 (k := w2.heap.size) (Nat.le_refl _)
      have mX := H.out.new3 (k := w2.heap.size) (Nat.le_refl _)
      have vX := H.out.1.1.size
      have uXx := CW.out.size
      replace H := Lib.hid (H.out.keep cb)
      replace CW := Lib.hid (CW.out.trans (weak2 cb))
      clear cb
      generalize w2.heap.size = pX at rX nX mX vX uXx ⊢
      generalize w2.alloc (.cells (slc x) 72 (0, 0)) = w3 at rX H CW ⊢
      have rG := H.out.2.1
      have oX := old rX
      refine (gread_at _ _ hm _).mono ?_
      rintro e w' ⟨rfl, rfl⟩
      go_wp2_with fail
      refine (gidle_at _ hi w3 H.out).mono ?_
      rintro e w4 ⟨rfl, c4⟩
      replace H := Lib.hid (H.out.keep c4)
      replace CW := Lib.hid (CW.out.trans (weak2 c4))
      clear c4
      have rG := H.out.2.1
      go_wp2_with fail
      refine (gget_any li 4 1 w4 H.out hu).mono ?_
      rintro e w5 ⟨A, n, rfl, h1, h2, h3⟩
      go_wp2_with fail
      go_ret3
      exact ⟨A, n, rfl, h1.from CW.out.size, h2, CW.out.trans h3⟩
  · rw [show loadF S N s li K = (touchS s li, ((findVal s.1 li).l.getD K 0, true, [])) by unfold loadF; rw [if_pos (by simp [t1, t2]), if_pos hm, Int.toNat_natCast]]
    generalize findVal s.1 li = x at hf hm
    have hwd := slc_word x K hK
    have g1 : (K : Int) < 8 := by omega
    have g0 : (0 : Int) ≤ (K : Int) := by omega
    go_enter Tryd.func7, Tryd.ntmps7
    try dsimp only [List.append]
    go_wp2_with (first | (go_at_call 27; refine (gline_at _ _ t1 _).mono ?_; rintro e w' ⟨rfl, rfl⟩) | (go_at_call 28; refine (gword_at _ _ t2 _).mono ?_; rintro e w' ⟨rfl, rfl⟩))
    refine hf.mono ?_
    clear hf
    rintro e w2 ⟨rfl, c2⟩
    replace H := Lib.hid (H.out.keep c2)
    replace CW := Lib.hid (CW.out.trans (weak2 c2))
    clear c2
    have rG := H.out.2.1
    go_wp2_with fail
    have cb := (Chg.refl [] w2).alloc (.cells (slc x) 72 (0, 0))
    have rX : (w2.alloc (.cells (slc x) 72 (0, 0))).heap[w2.heap.size]? = some (.cells (slc x) 72 (0, 0)) := by simp
    have nX := H.out.new2 (k := w2.heap.size) (Nat.le_refl _)
    have mX := H.out.new3 (k := w2.heap.size) (Nat.le_refl _)
    have vX := H.out.1.1.size
    have uXx := CW.out.size
    replace H := Lib.hid (H.out.keep cb)
    replace CW := Lib.hid (CW.out.trans (weak2 cb))
    clear cb
    generalize w2.heap.size = pX at rX nX mX vX uXx ⊢
    generalize w2.alloc (.cells (slc x) 72 (0, 0)) = w3 at rX H CW ⊢
    have rG := H.out.2.1
    have oX := old rX
    refine (gread_at _ _ hm _).mono ?_
    rintro e w' ⟨rfl, rfl⟩
    go_wp2_with fail
    refine (gtouch_any H.out hu li).mono ?_
    rintro e w4 ⟨rfl, h4, c4⟩
    replace rX := c4.keep rX nX
    go_wp2_with fail
    go_ret3
    exact AgRet.nil (f := fun v => .tuple #[.int .u64 (x.l.getD K 0), .bool true, v]) h4 (CW.out.trans c4)
theorem greach_any {W : World} {g a b S N : Nat} {s : Sta} (li : Int) (w : World) (h : Agt W w g a b S N s) (hu : s.2 ≤ 1000000000) : Calls Tryd.prog 16 #[.pointer (some ⟨g, 0, none⟩), .int .i64 li] w (AgRet W w g a b S N (reachF S N s li).1 (fun v => v) (reachF S N s li).2) := by
  have H := Lib.hid h
  have rG := h.2.1
  have CW := Lib.hid (Chg.refl [a, b] w)
  clear h
  have hf := gfind_any H.out li
  cases t1 : isLn li
  · rw [show reachF S N s li = (s, []) by unfold reachF; rw [if_neg (by simp [t1])]]
    go_enter Tryd.func16, Tryd.ntmps16
    try dsimp only [List.append]
    go_wp2_with (go_at_call 27; refine (gline_at _ _ t1 _).mono ?_; rintro e w' ⟨rfl, rfl⟩)
    go_ret
    exact AgRet.nil (f := fun v => v) H.out CW.out
  cases ho : ownsB s.1 li
  rotate_left
  · rw [show reachF S N s li = (s, []) by unfold reachF; rw [if_neg (by simp [ho])]]
    go_enter Tryd.func16, Tryd.ntmps16
    try dsimp only [List.append]
    go_wp2_with (go_at_call 27; refine (gline_at _ _ t1 _).mono ?_; rintro e w' ⟨rfl, rfl⟩)
    refine (gowns_at li _ ho w H.out).mono ?_
    rintro e w3 ⟨rfl, c3⟩
    go_wp2_with fail
    go_ret
    exact AgRet.nil (f := fun v => v) (H.out.keep c3) (weak2 c3)
  cases hi : idleB s.1
  · rw [show reachF S N s li = (s, []) by unfold reachF; rw [if_neg (by simp [hi])]]
    go_enter Tryd.func16, Tryd.ntmps16
    try dsimp only [List.append]
    go_wp2_with (go_at_call 27; refine (gline_at _ _ t1 _).mono ?_; rintro e w' ⟨rfl, rfl⟩)
    refine (gowns_at li _ ho w H.out).mono ?_
    rintro e w3 ⟨rfl, c3⟩
    go_wp2_with fail
    refine (gidle_at _ hi w3 (H.out.keep c3)).mono ?_
    rintro e w4 ⟨rfl, c4⟩
    go_wp2_with fail
    go_ret
    exact AgRet.nil (f := fun v => v) ((H.out.keep c3).keep c4) (weak2 (c3.trans c4))
  have hgo : (isLn li && !ownsB s.1 li && idleB s.1) = true := by simp [t1, ho, hi]
  cases hd : dropVal s.1 li
  · rw [show reachF S N s li = getF S N s li 5 2 by unfold reachF; rw [if_pos hgo, if_neg (by simp [hd])]]
    clear hgo
    generalize findVal s.1 li = x at hf
    rw [hd] at hf
    go_enter Tryd.func16, Tryd.ntmps16
    try dsimp only [List.append]
    go_wp2_with (go_at_call 27; refine (gline_at _ _ t1 _).mono ?_; rintro e w' ⟨rfl, rfl⟩)
    refine (gowns_at li _ ho w H.out).mono ?_
    rintro e w3 ⟨rfl, c3⟩
    go_wp2_with fail
    refine (gidle_at _ hi w3 (H.out.keep c3)).mono ?_
    rintro e w4 ⟨rfl, c4⟩
    replace hf := gfind_any ((H.out.keep c3).keep c4) li
    rw [hd] at hf
    replace H := Lib.hid (H.out.keep c3)
    replace CW := Lib.hid (CW.out.trans (weak2 c3))
    clear c3
    have rG := H.out.2.1
    replace H := Lib.hid (H.out.keep c4)
    replace CW := Lib.hid (CW.out.trans (weak2 c4))
    clear c4
    have rG := H.out.2.1
    go_wp2_with fail
    refine hf.mono ?_
    clear hf
    rintro e w2 ⟨rfl, c2⟩
    generalize findVal s.1 li = x
    replace H := Lib.hid (H.out.keep c2)
    replace CW := Lib.hid (CW.out.trans (weak2 c2))
    clear c2
    have rG := H.out.2.1
    go_wp2_with fail
    have cb := (Chg.refl [] w2).alloc (.cells (slc x) 72 (0, 0))
    have rX : (w2.alloc (.cells (slc x) 72 (0, 0))).heap[w2.heap.size]? = some (.cells (slc x) 72 (0, 0)) := by simp
    have nX := H.out.new2 (k := w2.heap.size) (Nat.le_refl _)
    have mX := H.out.new3 (k := w2.heap.size) (Nat.le_refl _)
    have vX := H.out.1.1.size
    have uXx := CW.out.size
    replace H := Lib.hid (H.out.keep cb)
    replace CW := Lib.hid (CW.out.trans (weak2 cb))
    clear cb
    generalize w2.heap.size = pX at rX nX mX vX uXx ⊢
    generalize w2.alloc (.cells (slc x) 72 (0, 0)) = w5 at rX H CW ⊢
    have rG := H.out.2.1
    have oX := old rX
    refine (gget_any li 5 2 w5 H.out hu).mono ?_
    rintro e w6 ⟨A, n, rfl, h1, h2, h3⟩
    go_wp2_with fail
    go_ret
    exact ⟨A, n, rfl, h1.from CW.out.size, h2, CW.out.trans h3⟩
  · rw [show reachF S N s li = (setS S N s li 6 (findVal s.1 li).l (findVal s.1 li).h, [ms4 2 li false false]) by unfold reachF; rw [if_pos hgo, if_pos hd]]
    clear hgo
    replace hf := fun W' hW => gfind_any (w := W') (s := s) (W := W) (g := g) (a := a) (b := b) (S := S) (N := N) hW li
    simp only [hd] at hf
    generalize findVal s.1 li = x at hf
    go_enter Tryd.func16, Tryd.ntmps16
    try dsimp only [List.append]
    go_wp2_with (go_at_call 27; refine (gline_at _ _ t1 _).mono ?_; rintro e w' ⟨rfl, rfl⟩)
    refine (gowns_at li _ ho w H.out).mono ?_
    rintro e w3 ⟨rfl, c3⟩
    go_wp2_with fail
    refine (gidle_at _ hi w3 (H.out.keep c3)).mono ?_
    rintro e w4 ⟨rfl, c4⟩
    replace H := Lib.hid (H.out.keep c3)
    replace CW := Lib.hid (CW.out.trans (weak2 c3))
    clear c3
    have rG := H.out.2.1
    replace H := Lib.hid (H.out.keep c4)
    replace CW := Lib.hid (CW.out.trans (weak2 c4))
    clear c4
    have rG := H.out.2.1
    go_wp2_with fail
    refine (hf w4 H.out).mono ?_
    clear hf
    rintro e w2 ⟨rfl, c2⟩
    replace H := Lib.hid (H.out.keep c2)
    replace CW := Lib.hid (CW.out.trans (weak2 c2))
    clear c2
    have rG := H.out.2.1
    go_wp2_with fail
    have cb := (Chg.refl [] w2).alloc (.cells (slc x) 72 (0, 0))
    have rX : (w2.alloc (.cells (slc x) 72 (0, 0))).heap[w2.heap.size]? = some (.cells (slc x) 72 (0, 0)) := by simp
    have nX := H.out.new2 (k := w2.heap.size) (Nat.le_refl _)
    have mX := H.out.new3 (k := w2.heap.size) (Nat.le_refl _)
    have vX := H.out.1.1.size
    have uXx := CW.out.size
    replace H := Lib.hid (H.out.keep cb)
    replace CW := Lib.hid (CW.out.trans (weak2 cb))
    clear cb
    generalize w2.heap.size = pX at rX nX mX vX uXx ⊢
    generalize w2.alloc (.cells (slc x) 72 (0, 0)) = w5 at rX H CW ⊢
    have rG := H.out.2.1
    have oX := old rX
    go_wp2_with fail
    have nG := H.out.2.2.2.1
    go_region_held3 (fun w' => w'.heap[g]? = some (.cells #[.pointer (some ⟨a, 0, none⟩)] 68 (0, 0)) ∧ w'.heap[pX]? = some (.cells (slc x) 72 (0, 0))) (first | exact ⟨rG, rX⟩ | exact ⟨c4.keep rG nG, c4.keep rX nX⟩)
      (first
        | (go_at_call 38; refine (gset_any (H.out.keep (Chg.drew (Chg.refl [] w5))) hu li 6 x.l x.h).mono ?_; rintro e w4 ⟨rfl, h4, c4⟩))
    all_goals
      replace H := Lib.hid h4
      replace CW := Lib.hid (CW.out.trans (Chg.trans (Chg.drew (Chg.refl [a, b] w5)) c4))
      replace rX := c4.keep rX nX
      clear h4 c4 rG
      have rG := H.out.2.1
      go_wp2_with fail
      go_ret
      exact AgRet.one (f := fun v => v) H.out CW.out _
theorem gstore_any {W : World} {g a b S N : Nat} {s : Sta} (li k v0 : Int) (w : World) (h : Agt W w g a b S N s) (hu : s.2 ≤ 1000000000) : Calls Tryd.prog 10 #[.pointer (some ⟨g, 0, none⟩), .int .i64 li, .int .i64 k, .int .u64 v0] w (AgRet W w g a b S N (storeF S N s li k v0).1 (fun v => .tuple #[.bool (storeF S N s li k v0).2.1, v]) (storeF S N s li k v0).2.2) := by
  have H := Lib.hid h
  have rG := h.2.1
  have CW := Lib.hid (Chg.refl [a, b] w)
  clear h
  have hf := gfind_any H.out li
  cases t1 : isLn li
  · rw [show storeF S N s li k v0 = (s, (false, [])) by unfold storeF; rw [if_neg (by simp [t1])]]
    go_enter Tryd.func10, Tryd.ntmps10
    try dsimp only [List.append]
    go_wp2_with (first | (go_at_call 27; refine (gline_at _ _ t1 _).mono ?_; rintro e w' ⟨rfl, rfl⟩) | (go_at_call 28; refine (gword_at _ _ t2 _).mono ?_; rintro e w' ⟨rfl, rfl⟩))
    go_ret2
    exact AgRet.nil (f := fun v => .tuple #[.bool false, v]) H.out CW.out
  cases t2 : isWd k
  · rw [show storeF S N s li k v0 = (s, (false, [])) by unfold storeF; rw [if_neg (by simp [t2])]]
    go_enter Tryd.func10, Tryd.ntmps10
    try dsimp only [List.append]
    go_wp2_with (first | (go_at_call 27; refine (gline_at _ _ t1 _).mono ?_; rintro e w' ⟨rfl, rfl⟩) | (go_at_call 28; refine (gword_at _ _ t2 _).mono ?_; rintro e w' ⟨rfl, rfl⟩))
    go_ret2
    exact AgRet.nil (f := fun v => .tuple #[.bool false, v]) H.out CW.out
  obtain ⟨K, hK, rfl⟩ : ∃ K : Nat, K < 8 ∧ k = K := by simp [isWd] at t2; exact ⟨k.toNat, by omega, by omega⟩
  cases hm : mayWr (findVal s.1 li).st
  · rw [show storeF S N s li K v0 = ((reachF S N s li).1, (false, (reachF S N s li).2)) by unfold storeF ownsB; rw [if_pos (by simp [t1, t2]), if_neg (by simp [hm])]]
    generalize findVal s.1 li = x at hf hm
    go_enter Tryd.func10, Tryd.ntmps10
    try dsimp only [List.append]
    go_wp2_with (first | (go_at_call 27; refine (gline_at _ _ t1 _).mono ?_; rintro e w' ⟨rfl, rfl⟩) | (go_at_call 28; refine (gword_at _ _ t2 _).mono ?_; rintro e w' ⟨rfl, rfl⟩))
    refine hf.mono ?_
    clear hf
    rintro e w2 ⟨rfl, c2⟩
    replace H := Lib.hid (H.out.keep c2)
    replace CW := Lib.hid (CW.out.trans (weak2 c2))
    clear c2
    have rG := H.out.2.1
    go_wp2_with fail
    have cb := (Chg.refl [] w2).alloc (.cells (slc x) 72 (0, 0))
    have rX : (w2.alloc (.cells (slc x) 72 (0, 0))).heap[w2.heap.size]? = some (.cells (slc x) 72 (0, 0)) := by simp
    have nX := H.out.new2 (k := w2.heap.size) (Nat.le_refl _)
    have mX := H.out.new3 (k := w2.heap.size) (Nat.le_refl _)
    have vX := H.out.1.1.size
    have uXx := CW.out.size
    replace H := Lib.hid (H.out.keep cb)
    replace CW := Lib.hid (CW.out.trans (weak2 cb))
    clear cb
    generalize w2.heap.size = pX at rX nX mX vX uXx ⊢
    generalize w2.alloc (.cells (slc x) 72 (0, 0)) = w3 at rX H CW ⊢
    have rG := H.out.2.1
    have oX := old rX
    refine (gwrite_at _ _ hm _).mono ?_
    rintro e w' ⟨rfl, rfl⟩
    go_wp2_with fail
    refine (greach_any li w3 H.out hu).mono ?_
    rintro e w5 ⟨A, n, rfl, h1, h2, h3⟩
    go_wp2_with fail
    go_ret2
    exact ⟨A, n, rfl, h1.from CW.out.size, h2, CW.out.trans h3⟩
  · have e1 : storeF S N s li K v0 = (setS S N s li 3 ((findVal s.1 li).l.set K v0) (by rw [List.length_set]; exact (findVal s.1 li).h), (true, [])) := by
      unfold storeF ownsB; rw [if_pos (by simp [t1, t2]), if_pos hm]; rfl
    rw [e1]
    clear e1
    generalize findVal s.1 li = x at hf hm
    have hx8 := x.h
    have hsw := slc_setWord x K v0 hK
    have hwd := slc_word x K hK
    have g1 : (K : Int) < 8 := by omega
    have g0 : (0 : Int) ≤ (K : Int) := by omega
    have hl8 : (x.l.set K v0).length = 8 := by rw [List.length_set]; exact x.h
    go_enter Tryd.func10, Tryd.ntmps10
    try dsimp only [List.append]
    go_wp2_with (first | (go_at_call 27; refine (gline_at _ _ t1 _).mono ?_; rintro e w' ⟨rfl, rfl⟩) | (go_at_call 28; refine (gword_at _ _ t2 _).mono ?_; rintro e w' ⟨rfl, rfl⟩))
    refine hf.mono ?_
    clear hf
    rintro e w2 ⟨rfl, c2⟩
    replace H := Lib.hid (H.out.keep c2)
    replace CW := Lib.hid (CW.out.trans (weak2 c2))
    clear c2
    have rG := H.out.2.1
    go_wp2_with fail
    have cb := (Chg.refl [] w2).alloc (.cells (slc x) 72 (0, 0))
    have rX : (w2.alloc (.cells (slc x) 72 (0, 0))).heap[w2.heap.size]? = some (.cells (slc x) 72 (0, 0)) := by simp
    have nX := H.out.new2 (k := w2.heap.size) (Nat.le_refl _)
    have mX := H.out.new3 (k := w2.heap.size) (Nat.le_refl _)
    have vX := H.out.1.1.size
    have uXx := CW.out.size
    replace H := Lib.hid (H.out.keep cb)
    replace CW := Lib.hid (CW.out.trans (weak2 cb))
    clear cb
    generalize w2.heap.size = pX at rX nX mX vX uXx ⊢
    generalize w2.alloc (.cells (slc x) 72 (0, 0)) = w3 at rX H CW ⊢
    have rG := H.out.2.1
    have oX := old rX
    refine (gwrite_at _ _ hm _).mono ?_
    rintro e w' ⟨rfl, rfl⟩
    go_wp2_with fail
    have cb : Chg [pX] w3 (w3.setCell ⟨pX, 2 + K, none⟩ (.int .u64 v0)) := (Chg.refl [pX] w3).setCell _ _ _ (.inl (by simp))
    have rX2 : (w3.setCell ⟨pX, 2 + K, none⟩ (.int .u64 v0)).heap[pX]? = some (.cells (slc (x.putL (x.l.set K v0) hl8)) 72 (0, 0)) := by simp [rX, hsw]
    replace CW := Lib.hid (CW.out.trans' cb (by simp [uXx]))
    replace H := Lib.hid (H.out.apart cb mX vX)
    clear cb rX rG hsw hwd
    have rX := rX2
    clear rX2
    generalize w3.setCell ⟨pX, 2 + K, none⟩ (.int .u64 v0) = w5 at rX H CW ⊢
    have rG := H.out.2.1
    have oX := old rX
    have nG := H.out.2.2.2.1
    go_region_held3 (fun w' => w'.heap[g]? = some (.cells #[.pointer (some ⟨a, 0, none⟩)] 68 (0, 0)) ∧ w'.heap[pX]? = some (.cells (slc (x.putL (x.l.set K v0) hl8)) 72 (0, 0))) (first | exact ⟨rG, rX⟩ | exact ⟨c4.keep rG nG, c4.keep rX nX⟩)
      (first
        | (go_at_call 38; refine (gset_any (H.out.keep (Chg.drew (Chg.refl [] w5))) hu li 3 (x.l.set K v0) hl8).mono ?_; rintro e w4 ⟨rfl, h4, c4⟩))
    all_goals
      replace H := Lib.hid h4
      replace CW := Lib.hid (CW.out.trans (Chg.trans (Chg.drew (Chg.refl [a, b] w5)) c4))
      replace rX := c4.keep rX nX
      clear h4 c4 rG
      have rG := H.out.2.1
      go_wp2_with fail
      go_ret2
      exact AgRet.nil (f := fun v => .tuple #[.bool true, v]) H.out CW.out
end Go.Proofs.YtadeoflkppiflaaDoor
