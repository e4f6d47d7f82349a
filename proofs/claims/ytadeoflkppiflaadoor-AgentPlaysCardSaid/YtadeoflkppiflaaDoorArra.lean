/- Slots found; room: walked. No condition. -/
import Derived.Test.YtadeoflkppiflaaDoorArr
namespace Go.Proofs.YtadeoflkppiflaaDoor
open Go.RowKit
set_option linter.unusedVariables false
set_option maxHeartbeats 1000000
attribute [local go_sem ↓] append_appS copy_copS clear_clrS make_mkS cell_row frozen_row loadLine storeLine loadSlot storeSlot heap_drew heap_drewN heap_alloc heap_past heap_setCell heap_putRow vs_get slc_st slc_li slc_us
attribute [local go_sem] rowCell_some rowFrozen_some rowHas_some rowIn_some rowPart_full rowPart_lit rowPut_full rowPut_lit rowSet_some size_putRow vs_size vs_one wideLine wideSlot run_loadS run_storeS run_appS run_copS run_clrS run_mkS loadW_at storeW_at fit_all fit_le one_int one_bool one_pointer one_slice allOne_list putRow_new ne_size1 ne_size2 ne_size3 ne_size4 zero8_length line_eq lit8 slc_size slc_one slc_part slc_in fold_slt slc_set_us
attribute [local simp ↓] heap_drew heap_drewN heap_alloc heap_past heap_setCell heap_putRow
attribute [local simp] rowCell_some rowFrozen_some rowHas_some rowIn_some rowPart_full rowPart_lit rowPut_full rowPut_lit rowSet_some size_putRow vs_size fit_all putRow_new ne_size1 ne_size2 ne_size3 ne_size4 zero8_length slc_size


/-- Two results, the first one a slot in memory. -/
theorem results_slot2 {fn : Func} {p t : Tmp} (h : fn.results = #[.cell p 72, .tmp t]) (tmps : Array Value) (w : World) (b : Nat) (s : Slt) (fr : Nat × Nat)
    (hp : tmps.getD p undef = .pointer (some ⟨b, 0, none⟩)) (hb : w.heap[b]? = some (.cells (slc s) 72 fr)) (x : Value) (hx : tmps.getD t undef = x) :
    (results fn tmps).run Tryd.prog w = .ok (.tuple #[.agg (slc s), x]) w := by
  subst hx
  have hp' : tmps[p]?.getD undef = .pointer (some ⟨b, 0, none⟩) := by simpa using hp
  have := run_loadVar_row (P := Tryd.prog) w b 72 72 (slc s) fr _ hb Tryd.underlying72 rfl (by rw [slc_size]; kernel_rfl)
  simp [results, h, hp', asAddr, this]

theorem sl_nil (w : World) (c : Nat) : Sl w 11 none 0 (cat Slt.enc []) := ⟨rfl, .inl rfl⟩
/-- Where no slot has the line: slots of which none has it, or none at all. -/
theorem aset_miss (a b S W : Nat) (xs : List Slt) (u li : Int) (w : World) (h : Arr w a b S W xs u) (hn : ∀ x ∈ xs, pLine li x = false) :
    Calls Tryd.prog 56 #[.pointer (some ⟨a, 0, none⟩), .int .i64 li] w fun e w' => ∃ (A : Option Addr) (n : Nat) (ys : List Slt), e = .returned (.slice A n n) ∧ Sl w' 11 A n (cat Slt.enc ys) ∧ n = ys.length ∧ n ≤ 100000 ∧ hit (pLine li) ys = -1 ∧ Chg [] w w' := by
  by_cases h0 : 0 ≤ li
  · refine (aset_ok a b S W xs u li w h h0).mono ?_
    rintro e w' ⟨rfl, c⟩
    refine ⟨_, _, _, rfl, (h.keep c (by simp) (by simp)).sl li, (h.2.2.2.seg_len li).symm, by have := h.2.2.2.way8; omega, hit_none ?_, c⟩
    intro x hx
    exact hn x (List.mem_of_mem_drop (List.mem_of_mem_take hx))
  · refine (aset_neg ⟨a, 0, none⟩ li w (by omega)).mono ?_
    rintro e w' ⟨rfl, rfl⟩
    exact ⟨none, 0, [], rfl, sl_nil _ 0, rfl, by omega, rfl, Chg.refl _ _⟩

/-! ### Found; room -/
theorem afind_nil (li : Int) (w : World) : Calls Tryd.prog 29 #[.pointer none, .int .i64 li] w fun e w' => e = .returned (.tuple #[.agg (slc sltZ), .bool false]) ∧ Chg [] w w' := by
  go_enter Tryd.func29, Tryd.ntmps29
  go_wp2_with fail
  rw [← slcZ]
  have hz : (w.alloc (.cells (slc sltZ) 72)).heap[w.heap.size]? = some (.cells (slc sltZ) 72 (0, 0)) := by simp
  have C0 := Lib.hid ((Chg.refl [] w).alloc (.cells (slc sltZ) 72))
  generalize w.alloc (.cells (slc sltZ) 72) = w1 at hz C0 ⊢
  refine (aset_nil li w1).mono ?_
  rintro e w2 ⟨rfl, rfl⟩
  go_wp2_with fail
  refine (wayOf_ok none 0 0 li [] w1 (sl_nil _ 0) rfl (by omega)).mono ?_
  rintro e w2 ⟨rfl, c2⟩
  have hz2 := c2.keep hz (by simp)
  have oz := old hz2
  have HC := Lib.hid (C0.out.trans c2)
  clear hz c2
  rw [hit_none (by simp)]
  go_wp2_with fail
  refine bodyPost_ret (v := .tuple #[.agg (slc sltZ), .bool false]) ?_ (by rfl) ?_
  · exact results_slot2 (by rfl) _ _ w.heap.size sltZ (0, 0) (by rfl) (by simp [*, slcZ]) _ (by rfl)
  · exact ⟨rfl, HC.out.putRow _ _ _ (.inr (Nat.le_refl _))⟩
theorem afind_any (a b S W : Nat) (xs : List Slt) (u li : Int) (w : World) (h : Arr w a b S W xs u) :
    Calls Tryd.prog 29 #[.pointer (some ⟨a, 0, none⟩), .int .i64 li] w fun e w' => e = .returned (.tuple #[.agg (slc (findVal xs li)), .bool (dropVal xs li)]) ∧ Chg [] w w' := by
  have H := Lib.hid h
  rcases h.2.2.2.where li with ⟨k, y, e1, e2, hk, hy, hst, hli, h0, e3, e4, e5⟩ | ⟨e1, e2, e3, e4⟩
  · rw [show findVal xs li = y by unfold findVal; rw [e2, hy], show dropVal xs li = true by unfold dropVal; rw [e2]; simpa using e5]
    have HH := Lib.hid e3
    have hys : (seg W xs (setOf S li))[k]? = some y := by rw [seg_get _ _ _ hk]; exact hy
    have HL := Lib.hid (h.2.2.2.seg_len li)
    have HY := Lib.hid hys
    have hw8 := h.2.2.2.way8
    clear h e1 e2 e3 e4 e5 hst hli hy hys
    go_enter Tryd.func29, Tryd.ntmps29
    go_wp2_with fail
    rw [← slcZ]
    have hz : (w.alloc (.cells (slc sltZ) 72)).heap[w.heap.size]? = some (.cells (slc sltZ) 72 (0, 0)) := by simp
    have C0 := Lib.hid ((Chg.refl [] w).alloc (.cells (slc sltZ) 72))
    generalize w.alloc (.cells (slc sltZ) 72) = w1 at hz C0 ⊢
    refine (aset_ok a b S W xs u li w1 (H.out.keep C0.out (by simp) (by simp)) h0).mono ?_
    rintro e w2 ⟨rfl, c2⟩
    have hz2 := c2.keep hz (by simp)
    have C2 := Lib.hid (C0.out.trans c2)
    clear hz c2
    go_wp2_with fail
    refine (wayOf_ok _ W W li _ w2 ((H.out.keep C2.out (by simp) (by simp)).sl li) HL.out.symm (by omega)).mono ?_
    rintro e w3 ⟨rfl, c3⟩
    rw [HH.out]
    have hz3 := c3.keep hz2 (by simp)
    have oz := old hz3
    have C3 := Lib.hid (C2.out.trans c3)
    obtain ⟨cs, t, f, hb, r1, r2⟩ := slt_elem (H.out.sl li) C3.out (by simp) hk HY.out
    have g1 : (k : Int) < (W : Int) := by omega
    have g0 : (0 : Int) ≤ (k : Int) := by omega
    have g2 : (W : Int) ≤ 8 := by omega
    have t1 : decide ((k : Int) < 0) = false := by simp
    clear hz2 c3
    go_wp2_with fail
    refine bodyPost_ret (v := .tuple #[.agg (slc y), .bool true]) ?_ (by rfl) ?_
    · exact results_slot2 (by rfl) _ _ w.heap.size y (0, 0) (by rfl) (by simp [*]) _ (by rfl)
    · exact ⟨rfl, C3.out.putRow _ _ _ (.inr (Nat.le_refl _))⟩
  · rw [show findVal xs li = sltZ by unfold findVal; rw [e3, List.getElem?_eq_none (Nat.le_refl _)], show dropVal xs li = false by unfold dropVal; rw [e3]; simp]
    have HN := Lib.hid e4
    clear h e1 e2 e3 e4
    go_enter Tryd.func29, Tryd.ntmps29
    go_wp2_with fail
    rw [← slcZ]
    have hz : (w.alloc (.cells (slc sltZ) 72)).heap[w.heap.size]? = some (.cells (slc sltZ) 72 (0, 0)) := by simp
    have C0 := Lib.hid ((Chg.refl [] w).alloc (.cells (slc sltZ) 72))
    generalize w.alloc (.cells (slc sltZ) 72) = w1 at hz C0 ⊢
    refine (aset_miss a b S W xs u li w1 (H.out.keep C0.out (by simp) (by simp)) HN.out).mono ?_
    rintro e w2 ⟨A, n, ys, rfl, s2, hn, hn1, hh, c2⟩
    have hz2 := c2.keep hz (by simp)
    have C2 := Lib.hid (C0.out.trans c2)
    have S2 := Lib.hid s2
    have HH := Lib.hid hh
    have HN1 := Lib.hid hn
    clear hz c2 s2 hh hn
    go_wp2_with fail
    refine (wayOf_ok A n n li ys w2 S2.out HN1.out hn1).mono ?_
    rintro e w3 ⟨rfl, c3⟩
    rw [HH.out]
    have hz3 := c3.keep hz2 (by simp)
    have oz := old hz3
    have C3 := Lib.hid (C2.out.trans c3)
    clear hz2 c3
    go_wp2_with fail
    refine bodyPost_ret (v := .tuple #[.agg (slc sltZ), .bool false]) ?_ (by rfl) ?_
    · exact results_slot2 (by rfl) _ _ w.heap.size sltZ (0, 0) (by rfl) (by simp [*, slcZ]) _ (by rfl)
    · exact ⟨rfl, C3.out.putRow _ _ _ (.inr (Nat.le_refl _))⟩
theorem aroom_nil (li : Int) (w : World) : Calls Tryd.prog 59 #[.pointer none, .int .i64 li] w fun e w' => e = .returned (.tuple #[.bool false, .int .i64 (-1)]) ∧ Chg [] w w' := by
  go_enter Tryd.func59, Tryd.ntmps59
  go_wp2_with fail
  refine (aset_nil li w).mono ?_
  rintro e w2 ⟨rfl, rfl⟩
  go_wp2_with fail
  refine (emptyWay_ok none 0 0 [] w (sl_nil _ 0) rfl (by omega)).mono ?_
  rintro e w2 ⟨rfl, c2⟩
  rw [hit_none (by simp)]
  have C2 := Lib.hid c2
  clear c2
  go_wp2_with fail
  refine (eldest_ok none 0 0 [] w2 (sl_nil _ 0) rfl (by omega)).mono ?_
  rintro e w3 ⟨rfl, c3⟩
  go_wp2_with fail
  go_ret2
  exact ⟨rfl, C2.out.trans c3⟩
theorem aroom_any (a b S W : Nat) (xs : List Slt) (u li : Int) (w : World) (h : Arr w a b S W xs u) :
    Calls Tryd.prog 59 #[.pointer (some ⟨a, 0, none⟩), .int .i64 li] w fun e w' => e = .returned (.tuple #[.bool (roomFree S W xs li), .int .i64 (roomVic S W xs li)]) ∧ Chg [] w w' := by
  have H := Lib.hid h
  by_cases h0 : 0 ≤ li
  · have HL := Lib.hid (h.2.2.2.seg_len li)
    have hw8 := h.2.2.2.way8
    rcases h.2.2.2.room li with ⟨k, y, e1, hk, hy, hst, e3, e4, _⟩ | ⟨e1, e2, e3⟩
    · rw [show roomFree S W xs li = true by unfold roomFree; rw [e1]; simp [h0, hk], show roomVic S W xs li = -1 by unfold roomVic; rw [e1, if_pos hk, if_neg (by omega)]]
      have HH := Lib.hid e3
      have t1 : decide ((0 : Int) ≤ (k : Int)) = true := by simp
      clear h e1 hy hst e3 e4
      go_enter Tryd.func59, Tryd.ntmps59
      go_wp2_with fail
      refine (aset_ok a b S W xs u li w H.out h0).mono ?_
      rintro e w2 ⟨rfl, c2⟩
      have C2 := Lib.hid c2
      clear c2
      go_wp2_with fail
      refine (emptyWay_ok _ W W _ w2 ((H.out.keep C2.out (by simp) (by simp)).sl li) HL.out.symm (by omega)).mono ?_
      rintro e w3 ⟨rfl, c3⟩
      rw [HH.out]
      go_wp2_with fail
      go_ret2
      exact ⟨rfl, C2.out.trans c3⟩
    · rw [show roomFree S W xs li = false by unfold roomFree; rw [e2]; simp, show roomVic S W xs li = eld (seg W xs (setOf S li)) by unfold roomVic; rw [e2, if_neg (by omega), if_neg (by omega)]]
      have HH := Lib.hid e1
      clear h e1 e2 e3
      go_enter Tryd.func59, Tryd.ntmps59
      go_wp2_with fail
      refine (aset_ok a b S W xs u li w H.out h0).mono ?_
      rintro e w2 ⟨rfl, c2⟩
      have C2 := Lib.hid c2
      clear c2
      go_wp2_with fail
      refine (emptyWay_ok _ W W _ w2 ((H.out.keep C2.out (by simp) (by simp)).sl li) HL.out.symm (by omega)).mono ?_
      rintro e w3 ⟨rfl, c3⟩
      rw [HH.out]
      have C3 := Lib.hid (C2.out.trans c3)
      clear c3
      go_wp2_with fail
      refine (eldest_ok _ W W _ w3 ((H.out.keep C3.out (by simp) (by simp)).sl li) HL.out.symm (by omega)).mono ?_
      rintro e w4 ⟨rfl, c4⟩
      go_wp2_with fail
      go_ret2
      exact ⟨rfl, C3.out.trans c4⟩
  · rw [show roomFree S W xs li = false by unfold roomFree; simp; omega, show roomVic S W xs li = -1 by unfold roomVic; rw [if_pos (by omega)]]
    clear h
    go_enter Tryd.func59, Tryd.ntmps59
    go_wp2_with fail
    refine (aset_neg ⟨a, 0, none⟩ li w (by omega)).mono ?_
    rintro e w2 ⟨rfl, rfl⟩
    go_wp2_with fail
    refine (emptyWay_ok none 0 0 [] w (sl_nil _ 0) rfl (by omega)).mono ?_
    rintro e w2 ⟨rfl, c2⟩
    rw [hit_none (by simp)]
    have C2 := Lib.hid c2
    clear c2
    go_wp2_with fail
    refine (eldest_ok none 0 0 [] w2 (sl_nil _ 0) rfl (by omega)).mono ?_
    rintro e w3 ⟨rfl, c3⟩
    go_wp2_with fail
    go_ret2
    exact ⟨rfl, C2.out.trans c3⟩
end Go.Proofs.YtadeoflkppiflaaDoor
