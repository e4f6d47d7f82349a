/- Ahd: walked. No condition. -/
import Derived.Test.YtadeoflkppiflaaDoorAhc
import Derived.Test.YtadeoflkppiflaaDoorAgm
import Derived.Test.YtadeoflkppiflaaDoorArrw
import Derived.Test.YtadeoflkppiflaaDoorMsgr
import Derived.BigQuiet
import Derived.Deep.RegionWith
import Derived.Deep.RegionHeld3
import Derived.Deep.QuietTactic
import Derived.Deep.Cut
import Derived.Deep.CutBlock
import Derived.Deep.CutRange
import Derived.Deep.DeepCutAuto
namespace Go.Proofs.YtadeoflkppiflaaDoor
open Go.RowKit
set_option linter.unusedVariables false
set_option maxHeartbeats 1000000
attribute [local go_sem ↓] append_appS copy_copS clear_clrS make_mkS cell_row frozen_row loadLine storeLine loadSlot storeSlot heap_drew heap_drewN heap_alloc heap_past heap_setCell heap_putRow vs_get slc_st slc_li slc_us slice_slS loadMsg storeMsg loadHas storeHas msc_kd msc_li msc_di msc_ke
attribute [local go_sem] rowCell_some rowFrozen_some rowHas_some rowIn_some rowPart_full rowPart_lit rowPut_full rowPut_lit rowSet_some size_putRow vs_size vs_one wideLine wideSlot run_loadS run_storeS run_appS run_copS run_clrS run_mkS loadW_at storeW_at fit_all fit_le one_int one_bool one_pointer one_slice allOne_list putRow_new ne_size1 ne_size2 ne_size3 ne_size4 zero8_length line_eq lit8 slc_size slc_one slc_part slc_in fold_slt fold_slc slc_set_us wideMsg wideHas run_slS msc_size msc_one msc_part msc_in fold_msc msc_putDi msc_putKe msc_putX msc_has ms4_lit ms4_k ms4_l ms4_e
attribute [local simp ↓] heap_drew heap_drewN heap_alloc heap_past heap_setCell heap_putRow
attribute [local simp] rowCell_some rowFrozen_some rowHas_some rowIn_some rowPart_full rowPart_lit rowPut_full rowPut_lit rowSet_some size_putRow vs_size fit_all putRow_new ne_size1 ne_size2 ne_size3 ne_size4 zero8_length slc_size msc_size msc_putDi msc_putKe msc_putX msc_has fit_le ms4_k ms4_l ms4_e


attribute [local go_sem ↓] loadRSlot storeRSlot field_st field_ln
attribute [local go_sem] wideRSlot
theorem RgRet.put {w w0 w1 w2 : World} {g a b S N k : Nat} {s : Sta} {f : Value → Value} {A : Option Addr} {ms : List Ms} {n : Nat} (h : RAg w1 g a b S N s) (h1 : Told w0 w1 A ms) (hc : Chg [a, b] w w1) (cb : Chg [k] w1 w2) (mk : k ∉ [g, a, b]) (uk : w.heap.size ≤ k) (hw : w.heap.size ≤ w0.heap.size) (ok : k < w0.heap.size) :
    RgRet w g a b S N s f ms (.returned (f (.slice A ms.length n))) w2 :=
  ⟨A, n, rfl, (h1.keep cb (by simp [ok])).from hw, h.apart cb mk, hc.trans' cb (by simp [uk])⟩
theorem results_ld1 {fn : Func} {p : Tmp} (h : fn.results = #[.cell p 42]) (tmps : Array Value) (w : World) (b : Nat) (u v x : Value) (fr : Nat × Nat)
    (hp : tmps.getD p undef = .pointer (some ⟨b, 0, none⟩)) (hb : w.heap[b]? = some (.cells #[u, v, x] 42 fr)) :
    (results fn tmps).run Tryd.prog w = .ok (.agg #[u, v, x]) w := by
  have hp' : tmps[p]?.getD undef = .pointer (some ⟨b, 0, none⟩) := by simpa using hp
  have := run_loadVar_row (P := Tryd.prog) w b 42 42 #[u, v, x] fr _ hb Tryd.underlying42 rfl (by kernel_rfl)
  simp [results, h, hp', asAddr, this]
theorem hload_any {g a b S N : Nat} {s : Sta} (li k : Int) (w : World) (h : RAg w g a b S N s) (hu : s.2 ≤ 1000000000) : Calls Tryd.prog 8 #[.pointer (some ⟨g, 0, none⟩), .int .i64 li, .int .i64 k] w (RgRet w g a b S N (loadF S N s li k).1 (fun v => .agg #[.int .u64 (loadF S N s li k).2.1, .bool (loadF S N s li k).2.2.1, v]) (loadF S N s li k).2.2.2) := by
  have H := Lib.hid h
  have rG := h.2.1
  have CW := Lib.hid (Chg.refl [a, b] w)
  clear h
  have hf := fun W' hW => hslot_any (g := g) (a := a) (b := b) (S := S) (N := N) (s := s) li W' hW
  cases t1 : (isLn li && isWd k)
  · rw [show loadF S N s li k = (s, (0, false, [])) by unfold loadF; rw [if_neg (by rw [t1]; simp)]]
    go_enter Tryd.func8, Tryd.ntmps8
    try dsimp only [List.append]
    go_wp2_with (go_at_call 33; refine (hthere_at _ _ _ t1 _).mono ?_; rintro e w' ⟨rfl, rfl⟩)
    refine bodyPost_ret (results_ld1 (by rfl) _ _ (w.heap.size) (.int .u64 0) (.bool false) (.slice none 0 0) (0, 0) (by rfl) (by simp; try rfl)) (by rfl) ?_
    exact RgRet.nil (f := fun v => .agg #[.int .u64 0, .bool false, v]) (H.out.keep ((Chg.refl [] w).alloc _)) (weak2 ((Chg.refl [] w).alloc _))
  have t2 := t1
  rw [Bool.and_eq_true] at t2
  have hl0 : 0 ≤ li := by have := t2.1; simp [isLn] at this; exact this.1
  obtain ⟨K, hK, rfl⟩ : ∃ K : Nat, K < 8 ∧ k = K := by have := t2.2; simp [isWd] at this; exact ⟨k.toNat, by omega, by omega⟩
  have g1 : (K : Int) < 8 := by omega
  have g0 : (0 : Int) ≤ (K : Int) := by omega
  clear t2
  cases hm : mayR (findVal s.1 li).st
  · have hno : ((findVal s.1 li).st == 1) = false ∧ ((findVal s.1 li).st == 2) = false ∧ ((findVal s.1 li).st == 3) = false ∧ ((findVal s.1 li).st == 6) = false := by
      unfold mayR atRest at hm
      simp at hm ⊢
      omega
    obtain ⟨z1, z2, z3, z6⟩ := hno
    cases q0 : ((findVal s.1 li).st != 0)
    · cases hi : idleB s.1
      · rw [show loadF S N s li K = (s, (0, false, [])) by unfold loadF; rw [if_pos t1, if_neg (by simp [hm]), if_neg (by simp [hi])]]
        generalize findVal s.1 li = x at hf z1 z2 z3 z6 q0
        go_enter Tryd.func8, Tryd.ntmps8
        try dsimp only [List.append]
        go_wp2_with (go_at_call 33; refine (hthere_at _ _ _ t1 _).mono ?_; rintro e w' ⟨rfl, rfl⟩)
        have cb := (Chg.refl [] w).alloc (.cells #[.int .u64 0, .bool false, .slice none 0 0] 42)
        have rR : (w.alloc (.cells #[.int .u64 0, .bool false, .slice none 0 0] 42)).heap[w.heap.size]? = some (.cells #[.int .u64 0, .bool false, .slice none 0 0] 42) := by simp
        have nR := H.out.new2 (k := w.heap.size) (Nat.le_refl _)
        have mR := H.out.new3 (k := w.heap.size) (Nat.le_refl _)
        have uR := CW.out.size
        replace H := Lib.hid (H.out.keep cb)
        replace CW := Lib.hid (CW.out.trans (weak2 cb))
        clear cb
        clear uR
        generalize hpR : w.heap.size = pR at rR nR mR ⊢
        have uR := Nat.le_of_eq hpR
        clear hpR
        generalize w.alloc (.cells #[.int .u64 0, .bool false, .slice none 0 0] 42) = w1 at rR H CW  ⊢
        have rG := H.out.2.1
        have oR := old rR
        refine (hf w1 H.out).mono ?_
        clear hf
        rintro e w2 ⟨rfl, c2⟩
        replace H := Lib.hid (H.out.keep c2)
        replace CW := Lib.hid (CW.out.trans (weak2 c2))
        replace rR := c2.keep rR List.not_mem_nil
        clear c2
        have rG := H.out.2.1
        go_upto_region 4 with fail
        have cb := (Chg.refl [] w2).alloc (.cells (slc x) 78 (0, 0))
        have rX : (w2.alloc (.cells (slc x) 78 (0, 0))).heap[w2.heap.size]? = some (.cells (slc x) 78 (0, 0)) := by simp
        have nX := H.out.new2 (k := w2.heap.size) (Nat.le_refl _)
        have mX := H.out.new3 (k := w2.heap.size) (Nat.le_refl _)
        have uX := CW.out.size
        replace H := Lib.hid (H.out.keep cb)
        replace CW := Lib.hid (CW.out.trans (weak2 cb))
        replace rR := cb.keep rR List.not_mem_nil
        clear cb
        generalize w2.heap.size = pX at rX nX mX uX ⊢
        generalize w2.alloc (.cells (slc x) 78 (0, 0)) = w3 at rX H CW rR ⊢
        have rG := H.out.2.1
        have oX := old rX
        have oR := old rR
        go_wp2_with fail
        refine (hmiss_no li 4 1 hi w3 H.out).mono ?_
        rintro e w5 ⟨A, n, rfl, h1, h2, h3⟩
        replace rR := h3.keep rR nR
        have oR5 := old rR
        go_wp2_with fail
        refine bodyPost_ret (results_ld1 (by rfl) _ _ pR (.int .u64 0) (.bool false) _ (0, 0) (by rfl) (by simp [rR]; try rfl)) (by rfl) ?_
        exact RgRet.put (f := fun v => .agg #[.int .u64 0, .bool false, v]) h2 h1 (CW.out.trans h3) ((((Chg.refl [pR] w5).setCell _ _ _ (.inl (List.mem_singleton.2 rfl))).setCell _ _ _ (.inl (List.mem_singleton.2 rfl))).setCell _ _ _ (.inl (List.mem_singleton.2 rfl))) mR uR CW.out.size oR
      · rw [show loadF S N s li K = ((getF S N s li 4 1).1, (0, false, (getF S N s li 4 1).2)) by unfold loadF; rw [if_pos t1, if_neg (by simp [hm]), if_pos hi]]
        generalize findVal s.1 li = x at hf z1 z2 z3 z6 q0
        go_enter Tryd.func8, Tryd.ntmps8
        try dsimp only [List.append]
        go_wp2_with (go_at_call 33; refine (hthere_at _ _ _ t1 _).mono ?_; rintro e w' ⟨rfl, rfl⟩)
        have cb := (Chg.refl [] w).alloc (.cells #[.int .u64 0, .bool false, .slice none 0 0] 42)
        have rR : (w.alloc (.cells #[.int .u64 0, .bool false, .slice none 0 0] 42)).heap[w.heap.size]? = some (.cells #[.int .u64 0, .bool false, .slice none 0 0] 42) := by simp
        have nR := H.out.new2 (k := w.heap.size) (Nat.le_refl _)
        have mR := H.out.new3 (k := w.heap.size) (Nat.le_refl _)
        have uR := CW.out.size
        replace H := Lib.hid (H.out.keep cb)
        replace CW := Lib.hid (CW.out.trans (weak2 cb))
        clear cb
        clear uR
        generalize hpR : w.heap.size = pR at rR nR mR ⊢
        have uR := Nat.le_of_eq hpR
        clear hpR
        generalize w.alloc (.cells #[.int .u64 0, .bool false, .slice none 0 0] 42) = w1 at rR H CW  ⊢
        have rG := H.out.2.1
        have oR := old rR
        refine (hf w1 H.out).mono ?_
        clear hf
        rintro e w2 ⟨rfl, c2⟩
        replace H := Lib.hid (H.out.keep c2)
        replace CW := Lib.hid (CW.out.trans (weak2 c2))
        replace rR := c2.keep rR List.not_mem_nil
        clear c2
        have rG := H.out.2.1
        go_upto_region 4 with fail
        have cb := (Chg.refl [] w2).alloc (.cells (slc x) 78 (0, 0))
        have rX : (w2.alloc (.cells (slc x) 78 (0, 0))).heap[w2.heap.size]? = some (.cells (slc x) 78 (0, 0)) := by simp
        have nX := H.out.new2 (k := w2.heap.size) (Nat.le_refl _)
        have mX := H.out.new3 (k := w2.heap.size) (Nat.le_refl _)
        have uX := CW.out.size
        replace H := Lib.hid (H.out.keep cb)
        replace CW := Lib.hid (CW.out.trans (weak2 cb))
        replace rR := cb.keep rR List.not_mem_nil
        clear cb
        generalize w2.heap.size = pX at rX nX mX uX ⊢
        generalize w2.alloc (.cells (slc x) 78 (0, 0)) = w3 at rX H CW rR ⊢
        have rG := H.out.2.1
        have oX := old rX
        have oR := old rR
        go_wp2_with fail
        refine (hmiss_any li 4 1 hi hl0 w3 H.out hu).mono ?_
        rintro e w5 ⟨A, n, rfl, h1, h2, h3⟩
        replace rR := h3.keep rR nR
        have oR5 := old rR
        go_wp2_with fail
        refine bodyPost_ret (results_ld1 (by rfl) _ _ pR (.int .u64 0) (.bool false) _ (0, 0) (by rfl) (by simp [rR]; try rfl)) (by rfl) ?_
        exact RgRet.put (f := fun v => .agg #[.int .u64 0, .bool false, v]) h2 h1 (CW.out.trans h3) ((((Chg.refl [pR] w5).setCell _ _ _ (.inl (List.mem_singleton.2 rfl))).setCell _ _ _ (.inl (List.mem_singleton.2 rfl))).setCell _ _ _ (.inl (List.mem_singleton.2 rfl))) mR uR CW.out.size oR
    · have hi : idleB s.1 = false := by
        cases h : idleB s.1
        · rfl
        · exfalso
          rcases idle_find h li with h1 | h1
          · rw [h1] at q0; simp at q0
          · unfold mayR at hm; rw [h1] at hm; simp at hm
      rw [show loadF S N s li K = (s, (0, false, [])) by unfold loadF; rw [if_pos t1, if_neg (by simp [hm]), if_neg (by simp [hi])]]
      generalize findVal s.1 li = x at hf z1 z2 z3 z6 q0
      go_enter Tryd.func8, Tryd.ntmps8
      try dsimp only [List.append]
      go_wp2_with (go_at_call 33; refine (hthere_at _ _ _ t1 _).mono ?_; rintro e w' ⟨rfl, rfl⟩)
      have cb := (Chg.refl [] w).alloc (.cells #[.int .u64 0, .bool false, .slice none 0 0] 42)
      have rR : (w.alloc (.cells #[.int .u64 0, .bool false, .slice none 0 0] 42)).heap[w.heap.size]? = some (.cells #[.int .u64 0, .bool false, .slice none 0 0] 42) := by simp
      have nR := H.out.new2 (k := w.heap.size) (Nat.le_refl _)
      have mR := H.out.new3 (k := w.heap.size) (Nat.le_refl _)
      have uR := CW.out.size
      replace H := Lib.hid (H.out.keep cb)
      replace CW := Lib.hid (CW.out.trans (weak2 cb))
      clear cb
      clear uR
      generalize hpR : w.heap.size = pR at rR nR mR ⊢
      have uR := Nat.le_of_eq hpR
      clear hpR
      generalize w.alloc (.cells #[.int .u64 0, .bool false, .slice none 0 0] 42) = w1 at rR H CW  ⊢
      have rG := H.out.2.1
      have oR := old rR
      refine (hf w1 H.out).mono ?_
      clear hf
      rintro e w2 ⟨rfl, c2⟩
      replace H := Lib.hid (H.out.keep c2)
      replace CW := Lib.hid (CW.out.trans (weak2 c2))
      replace rR := c2.keep rR List.not_mem_nil
      clear c2
      have rG := H.out.2.1
      go_upto_region 4 with fail
      have cb := (Chg.refl [] w2).alloc (.cells (slc x) 78 (0, 0))
      have rX : (w2.alloc (.cells (slc x) 78 (0, 0))).heap[w2.heap.size]? = some (.cells (slc x) 78 (0, 0)) := by simp
      have nX := H.out.new2 (k := w2.heap.size) (Nat.le_refl _)
      have mX := H.out.new3 (k := w2.heap.size) (Nat.le_refl _)
      have uX := CW.out.size
      replace H := Lib.hid (H.out.keep cb)
      replace CW := Lib.hid (CW.out.trans (weak2 cb))
      replace rR := cb.keep rR List.not_mem_nil
      clear cb
      generalize w2.heap.size = pX at rX nX mX uX ⊢
      generalize w2.alloc (.cells (slc x) 78 (0, 0)) = w3 at rX H CW rR ⊢
      have rG := H.out.2.1
      have oX := old rX
      have oR := old rR
      go_wp2_with fail
      refine bodyPost_ret (results_ld1 (by rfl) _ _ pR (.int .u64 0) (.bool false) (.slice none 0 0) (0, 0) (by rfl) (by simp [rR]; try rfl)) (by rfl) ?_
      exact RgRet.put (f := fun v => .agg #[.int .u64 0, .bool false, v]) H.out (Told.nil w3 w3) CW.out ((((Chg.refl [pR] w3).setCell _ _ _ (.inl (List.mem_singleton.2 rfl))).setCell _ _ _ (.inl (List.mem_singleton.2 rfl))).setCell _ _ _ (.inl (List.mem_singleton.2 rfl))) mR uR CW.out.size oR
  · rw [show loadF S N s li K = (touchS s li, ((findVal s.1 li).l.getD K 0, true, [])) by unfold loadF; rw [if_pos t1, if_pos hm, Int.toNat_natCast]]
    have hy : ((findVal s.1 li).st == 1) = true ∨ (((findVal s.1 li).st == 1) = false ∧ ((findVal s.1 li).st == 2) = true) ∨ (((findVal s.1 li).st == 1) = false ∧ ((findVal s.1 li).st == 2) = false ∧ ((findVal s.1 li).st == 3) = true) ∨ (((findVal s.1 li).st == 1) = false ∧ ((findVal s.1 li).st == 2) = false ∧ ((findVal s.1 li).st == 3) = false ∧ ((findVal s.1 li).st == 6) = true) := by
      unfold mayR atRest at hm
      simp at hm ⊢
      omega
    clear hm
    generalize findVal s.1 li = x at hf hy
    have hwd := slc_word x K hK
    rcases hy with z1 | ⟨z1, z2⟩ | ⟨z1, z2, z3⟩ | ⟨z1, z2, z3, z6⟩
    all_goals
      go_enter Tryd.func8, Tryd.ntmps8
      try dsimp only [List.append]
      go_wp2_with (go_at_call 33; refine (hthere_at _ _ _ t1 _).mono ?_; rintro e w' ⟨rfl, rfl⟩)
      have cb := (Chg.refl [] w).alloc (.cells #[.int .u64 0, .bool false, .slice none 0 0] 42)
      have rR : (w.alloc (.cells #[.int .u64 0, .bool false, .slice none 0 0] 42)).heap[w.heap.size]? = some (.cells #[.int .u64 0, .bool false, .slice none 0 0] 42) := by simp
      have nR := H.out.new2 (k := w.heap.size) (Nat.le_refl _)
      have mR := H.out.new3 (k := w.heap.size) (Nat.le_refl _)
      have uR := CW.out.size
      replace H := Lib.hid (H.out.keep cb)
      replace CW := Lib.hid (CW.out.trans (weak2 cb))
      clear cb
      clear uR
      generalize hpR : w.heap.size = pR at rR nR mR ⊢
      have uR := Nat.le_of_eq hpR
      clear hpR
      generalize w.alloc (.cells #[.int .u64 0, .bool false, .slice none 0 0] 42) = w1 at rR H CW  ⊢
      have rG := H.out.2.1
      have oR := old rR
      refine (hf w1 H.out).mono ?_
      clear hf
      rintro e w2 ⟨rfl, c2⟩
      replace H := Lib.hid (H.out.keep c2)
      replace CW := Lib.hid (CW.out.trans (weak2 c2))
      replace rR := c2.keep rR List.not_mem_nil
      clear c2
      have rG := H.out.2.1
      go_upto_region 4 with fail
      have cb := (Chg.refl [] w2).alloc (.cells (slc x) 78 (0, 0))
      have rX : (w2.alloc (.cells (slc x) 78 (0, 0))).heap[w2.heap.size]? = some (.cells (slc x) 78 (0, 0)) := by simp
      have nX := H.out.new2 (k := w2.heap.size) (Nat.le_refl _)
      have mX := H.out.new3 (k := w2.heap.size) (Nat.le_refl _)
      have uX := CW.out.size
      replace H := Lib.hid (H.out.keep cb)
      replace CW := Lib.hid (CW.out.trans (weak2 cb))
      replace rR := cb.keep rR List.not_mem_nil
      clear cb
      generalize w2.heap.size = pX at rX nX mX uX ⊢
      generalize w2.alloc (.cells (slc x) 78 (0, 0)) = w3 at rX H CW rR ⊢
      have rG := H.out.2.1
      have oX := old rX
      have oR := old rR
      go_wp2_with fail
      refine (htouch_any H.out hu li).mono ?_
      rintro e w5 ⟨rfl, h4, c4⟩
      replace rX := c4.keep rX nX
      replace rR := c4.keep rR nR
      have oR5 := old rR
      have oX5 := old rX
      go_wp2_with fail
      refine bodyPost_ret (results_ld1 (by rfl) _ _ pR (.int .u64 (x.l.getD K 0)) (.bool true) (.slice none 0 0) (0, 0) (by rfl) (by simp [rR]; try rfl)) (by rfl) ?_
      exact RgRet.put (f := fun v => .agg #[.int .u64 (x.l.getD K 0), .bool true, v]) h4 (Told.nil w5 w5) (CW.out.trans c4) ((((Chg.refl [pR] w5).setCell _ _ _ (.inl (List.mem_singleton.2 rfl))).setCell _ _ _ (.inl (List.mem_singleton.2 rfl))).setCell _ _ _ (.inl (List.mem_singleton.2 rfl))) mR uR (Nat.le_trans CW.out.size c4.size) oR5
theorem hstore_any {g a b S N : Nat} {s : Sta} (li k v0 : Int) (w : World) (h : RAg w g a b S N s) (hu : s.2 ≤ 1000000000) : Calls Tryd.prog 11 #[.pointer (some ⟨g, 0, none⟩), .int .i64 li, .int .i64 k, .int .u64 v0] w (RgRet w g a b S N (storeF S N s li k v0).1 (fun v => .tuple #[.bool (storeF S N s li k v0).2.1, v]) (storeF S N s li k v0).2.2) := by
  have H := Lib.hid h
  have rG := h.2.1
  have CW := Lib.hid (Chg.refl [a, b] w)
  clear h
  have hf := fun W' hW => hslot_any (g := g) (a := a) (b := b) (S := S) (N := N) (s := s) li W' hW
  cases t1 : (isLn li && isWd k)
  · rw [show storeF S N s li k v0 = (s, (false, [])) by unfold storeF; rw [if_neg (by rw [t1]; simp)]]
    go_enter Tryd.func11, Tryd.ntmps11
    try dsimp only [List.append]
    go_wp2_with (go_at_call 33; refine (hthere_at _ _ _ t1 _).mono ?_; rintro e w' ⟨rfl, rfl⟩)
    go_ret2
    exact RgRet.nil (f := fun v => .tuple #[.bool false, v]) H.out CW.out
  have t2 := t1
  rw [Bool.and_eq_true] at t2
  obtain ⟨K, hK, rfl⟩ : ∃ K : Nat, K < 8 ∧ k = K := by have := t2.2; simp [isWd] at this; exact ⟨k.toNat, by omega, by omega⟩
  cases ho : ownsB s.1 li
  · rw [show storeF S N s li K v0 = ((reachF S N s li).1, (false, (reachF S N s li).2)) by unfold storeF; rw [if_pos t1, if_neg (by simp [ho])]]
    go_enter Tryd.func11, Tryd.ntmps11
    try dsimp only [List.append]
    go_wp2_with (go_at_call 33; refine (hthere_at _ _ _ t1 _).mono ?_; rintro e w' ⟨rfl, rfl⟩)
    refine (howns_at li _ ho w H.out).mono ?_
    rintro e w2 ⟨rfl, c2⟩
    replace H := Lib.hid (H.out.keep c2)
    replace CW := Lib.hid (CW.out.trans (weak2 c2))
    clear c2
    have rG := H.out.2.1
    go_wp2_with fail
    refine (hreach_any li w2 H.out hu).mono ?_
    rintro e w5 ⟨A, n, rfl, h1, h2, h3⟩
    go_wp2_with fail
    go_ret2
    exact ⟨A, n, rfl, h1.from CW.out.size, h2, CW.out.trans h3⟩
  · have e1 : storeF S N s li K v0 = (setS S N s li 3 ((findVal s.1 li).l.set K v0) (by rw [List.length_set]; exact (findVal s.1 li).h), (true, [])) := by
      unfold storeF; rw [if_pos t1, if_pos ho]; rfl
    rw [e1]
    clear e1 t2
    generalize findVal s.1 li = x at hf
    have hx8 := x.h
    have g1 : (K : Int) < 8 := by omega
    have g0 : (0 : Int) ≤ (K : Int) := by omega
    have hl8 : (x.l.set K v0).length = 8 := by rw [List.length_set]; exact x.h
    have gx : x.l[K]? = some (x.l.getD K 0) := by rw [List.getD_eq_getElem?_getD, List.getElem?_eq_getElem (by omega)]; rfl
    have hvs := vs_set x.l K v0
    go_enter Tryd.func11, Tryd.ntmps11
    try dsimp only [List.append]
    go_wp2_with (go_at_call 33; refine (hthere_at _ _ _ t1 _).mono ?_; rintro e w' ⟨rfl, rfl⟩)
    refine (howns_at li _ ho w H.out).mono ?_
    rintro e w2 ⟨rfl, c2⟩
    replace H := Lib.hid (H.out.keep c2)
    replace CW := Lib.hid (CW.out.trans (weak2 c2))
    clear c2
    have rG := H.out.2.1
    go_wp2_with fail
    refine (hf w2 H.out).mono ?_
    clear hf
    rintro e w3 ⟨rfl, c3⟩
    replace H := Lib.hid (H.out.keep c3)
    replace CW := Lib.hid (CW.out.trans (weak2 c3))
    clear c3
    have rG := H.out.2.1
    go_upto_region 6 with fail
    have cb := (Chg.refl [] w3).alloc (.cells (vs (x.l.set K v0)) 33)
    have rL : (w3.alloc (.cells (vs (x.l.set K v0)) 33)).heap[w3.heap.size]? = some (.cells (vs (x.l.set K v0)) 33) := by simp
    have nL := H.out.new2 (k := w3.heap.size) (Nat.le_refl _)
    have mL := H.out.new3 (k := w3.heap.size) (Nat.le_refl _)
    have uL := CW.out.size
    replace H := Lib.hid (H.out.keep cb)
    replace CW := Lib.hid (CW.out.trans (weak2 cb))
    clear cb
    generalize w3.heap.size = pL at rL nL mL uL ⊢
    generalize w3.alloc (.cells (vs (x.l.set K v0)) 33) = w5 at rL H CW  ⊢
    have rG := H.out.2.1
    have oL := old rL
    have nG := H.out.2.2.1
    go_region_held3 (fun w' => w'.heap[g]? = some (.cells #[.pointer (some ⟨a, 0, none⟩)] 60 (0, 0)) ∧ w'.heap[pL]? = some (.cells (vs (x.l.set K v0)) 33 (0, 0))) (first | exact ⟨rG, rL⟩ | exact ⟨c4.keep rG nG, c4.keep rL nL⟩)
      (first
        | (go_at_call 39; refine (hset_any (H.out.keep (Chg.drew (Chg.refl [] w5))) hu li 3 (x.l.set K v0) hl8).mono ?_; rintro e w4 ⟨rfl, h4, c4⟩))
    all_goals
      replace H := Lib.hid h4
      replace CW := Lib.hid (CW.out.trans (Chg.trans (Chg.drew (Chg.refl [a, b] w5)) c4))
      replace rL := c4.keep rL nL
      clear h4 c4 rG
      have rG := H.out.2.1
      go_wp2_with fail
      go_ret2
      exact RgRet.nil (f := fun v => .tuple #[.bool true, v]) H.out CW.out
theorem hevict_any {g a b S N : Nat} {s : Sta} (li : Int) (w : World) (h : RAg w g a b S N s) (hu : s.2 ≤ 1000000000) : Calls Tryd.prog 15 #[.pointer (some ⟨g, 0, none⟩), .int .i64 li] w (RgRet w g a b S N (evictF S N s li).1 (fun v => .tuple #[v, .int .i64 (evictF S N s li).2.2]) (evictF S N s li).2.1) := by
  have H := Lib.hid h
  have rG := h.2.1
  have CW := Lib.hid (Chg.refl [a, b] w)
  clear h
  have hf := fun W' hW => hslot_any (g := g) (a := a) (b := b) (S := S) (N := N) (s := s) li W' hW
  cases hi : idleB s.1
  · rw [show evictF S N s li = (s, ([], 15)) by unfold evictF; rw [if_neg (by simp [hi])]]
    go_enter Tryd.func15, Tryd.ntmps15
    try dsimp only [List.append]
    go_wp2_with fail
    refine (hidle_at _ hi w H.out).mono ?_
    rintro e w2 ⟨rfl, c2⟩
    replace H := Lib.hid (H.out.keep c2)
    replace CW := Lib.hid (CW.out.trans (weak2 c2))
    clear c2
    have rG := H.out.2.1
    go_wp2_with fail
    go_ret2
    exact RgRet.nil (f := fun v => .tuple #[v, .int .i64 15]) H.out CW.out
  have hid := idle_find hi li
  cases q1 : ((findVal s.1 li).st == 0)
  · have hr : atRest (findVal s.1 li).st = true := by
      rcases hid with h | h
      · rw [h] at q1; simp at q1
      · exact h
    have ho := fun W' hW => hout_any (g := g) (a := a) (b := b) (S := S) (N := N) (s := s) li hr W' hW hu
    rw [show evictF S N s li = ((outF S N s li).1, ((outF S N s li).2, 0)) by unfold evictF; rw [if_pos hi, out_yes hr]; rfl]
    clear hid hr
    generalize findVal s.1 li = x at hf q1
    go_enter Tryd.func15, Tryd.ntmps15
    try dsimp only [List.append]
    go_wp2_with fail
    refine (hidle_at _ hi w H.out).mono ?_
    rintro e w2 ⟨rfl, c2⟩
    replace H := Lib.hid (H.out.keep c2)
    replace CW := Lib.hid (CW.out.trans (weak2 c2))
    clear c2
    have rG := H.out.2.1
    go_wp2_with fail
    refine (hf w2 H.out).mono ?_
    clear hf
    rintro e w3 ⟨rfl, c3⟩
    replace H := Lib.hid (H.out.keep c3)
    replace CW := Lib.hid (CW.out.trans (weak2 c3))
    clear c3
    have rG := H.out.2.1
    go_wp2_with fail
    refine (ho w3 H.out).mono ?_
    rintro e w5 ⟨A, n, rfl, h1, h2, h3⟩
    go_wp2_with fail
    go_ret2
    exact ⟨A, n, rfl, h1.from CW.out.size, h2, CW.out.trans h3⟩
  · have hr : atRest (findVal s.1 li).st = false := by
      have : (findVal s.1 li).st = 0 := by simpa using q1
      rw [this]; rfl
    rw [show evictF S N s li = (s, ([], 14)) by unfold evictF; rw [if_pos hi, out_no hr]; rfl]
    clear hid hr
    generalize findVal s.1 li = x at hf q1
    go_enter Tryd.func15, Tryd.ntmps15
    try dsimp only [List.append]
    go_wp2_with fail
    refine (hidle_at _ hi w H.out).mono ?_
    rintro e w2 ⟨rfl, c2⟩
    replace H := Lib.hid (H.out.keep c2)
    replace CW := Lib.hid (CW.out.trans (weak2 c2))
    clear c2
    have rG := H.out.2.1
    go_wp2_with fail
    refine (hf w2 H.out).mono ?_
    clear hf
    rintro e w3 ⟨rfl, c3⟩
    replace H := Lib.hid (H.out.keep c3)
    replace CW := Lib.hid (CW.out.trans (weak2 c3))
    clear c3
    have rG := H.out.2.1
    go_wp2_with fail
    go_ret2
    exact RgRet.nil (f := fun v => .tuple #[v, .int .i64 14]) H.out CW.out
theorem hnew_ok (S N : Nat) (w : World) (h : goodNew S N) : Calls Tryd.prog 6 #[.int .i64 S, .int .i64 N] w fun e w' => ∃ g a b, e = .returned (.tuple #[.pointer (some ⟨g, 0, none⟩), .int .i64 0]) ∧ RAg w' g a b S N (List.replicate (S * N) sltZ, 0) ∧ w.heap.size ≤ a ∧ w.heap.size ≤ b ∧ w.heap.size ≤ g ∧ Chg [] w w' := by
  go_enter Tryd.func6, Tryd.ntmps6
  try dsimp only [List.append]
  go_wp2_with fail
  refine (rnew_ok S N w h).mono ?_
  rintro e w2 ⟨a, b, rfl, ha, hb, hc, hr⟩
  have HR := Lib.hid hr
  have HC := Lib.hid hc
  clear hr hc
  go_wp2_with fail
  go_ret2
  have h1 := lt_heap HR.out.1
  have h2 := lt_heap HR.out.2.1
  refine ⟨w2.heap.size, a, b, rfl, ⟨HR.out.keep ((Chg.refl [] w2).alloc _) (by simp) (by simp), by simp, by simp; omega, Sane.new _, by show (0 : Int) ≤ 0; omega⟩, ha, hb, HC.out.size, HC.out.alloc _⟩
theorem hnew_bad (s n : Int) (w : World) (h : ¬ goodNew s n) : Calls Tryd.prog 6 #[.int .i64 s, .int .i64 n] w fun e w' => e = .returned (.tuple #[.pointer none, .int .i64 1]) ∧ w = w' := by
  go_enter Tryd.func6, Tryd.ntmps6
  try dsimp only [List.append]
  go_wp2_with fail
  refine (rnew_bad s n w h).mono ?_
  rintro e w2 ⟨rfl, rfl⟩
  go_wp2_with fail
  go_ret2
  exact ⟨rfl, rfl⟩
end Go.Proofs.YtadeoflkppiflaaDoor
