/- Slots dropped, touched, set: walked. No condition. -/
import Derived.Test.YtadeoflkppiflaaDoorArra
namespace Go.Proofs.YtadeoflkppiflaaDoor
open Go.RowKit
set_option linter.unusedVariables false
set_option maxHeartbeats 1000000
attribute [local go_sem ↓] append_appS copy_copS clear_clrS make_mkS cell_row frozen_row loadLine storeLine loadSlot storeSlot heap_drew heap_drewN heap_alloc heap_past heap_setCell heap_putRow vs_get slc_st slc_li slc_us
attribute [local go_sem] rowCell_some rowFrozen_some rowHas_some rowIn_some rowPart_full rowPart_lit rowPut_full rowPut_lit rowSet_some size_putRow vs_size vs_one wideLine wideSlot run_loadS run_storeS run_appS run_copS run_clrS run_mkS loadW_at storeW_at fit_all fit_le one_int one_bool one_pointer one_slice allOne_list putRow_new ne_size1 ne_size2 ne_size3 ne_size4 zero8_length line_eq lit8 slc_size slc_one slc_part slc_in fold_slt slc_set_us
attribute [local simp ↓] heap_drew heap_drewN heap_alloc heap_past heap_setCell heap_putRow
attribute [local simp] rowCell_some rowFrozen_some rowHas_some rowIn_some rowPart_full rowPart_lit rowPut_full rowPut_lit rowSet_some size_putRow vs_size fit_all putRow_new ne_size1 ne_size2 ne_size3 ne_size4 zero8_length slc_size


/-- Behind a call that leaves the array so. -/
def ArrTo (w : World) (a b S W : Nat) (xs : List Slt) (u : Int) (v : Value) (e : Ending) (w' : World) : Prop := e = .returned v ∧ Chg [a, b] w w' ∧ Arr w' a b S W xs u
theorem ArrTo.same {w w' : World} {a b S W : Nat} {xs : List Slt} {u : Int} (h : Arr w a b S W xs u) (hc : Chg [] w w') (v : Value) : ArrTo w a b S W xs u v (.returned v) w' :=
  ⟨rfl, hc.mono (by simp), h.keep hc (by simp) (by simp)⟩
/-- Its slots replaced. -/
theorem Arr.putSlot {w : World} {a b S W : Nat} {xs : List Slt} {u : Int} (h : Arr w a b S W xs u) {k : Nat} {x : Slt} (hx : xs[k]? = some x) (y : Slt) (hg : Good S W (xs.set k y)) : Arr (putRow w b (k * 11) (slc y)) a b S W (xs.set k y) u := by
  have hr : rowHas (w.heap[b]?) (k * 11) (slc y).size = true := by rw [h.2.1, slc_size]; exact slt_has hx [] _
  refine ⟨?_, ?_, h.2.2.1, hg⟩
  · rw [heap_putRow _ _ _ _ _ hr, if_neg h.2.2.1, List.length_set]; exact h.1
  · rw [heap_putRow _ _ _ _ _ hr, if_pos rfl, h.2.1]; exact slt_put hx [] _ _ y
theorem Arr.putUse {w : World} {a b S W : Nat} {xs : List Slt} {u : Int} (h : Arr w a b S W xs u) {k : Nat} {x : Slt} (hx : xs[k]? = some x) (n : Int) (hg : Good S W (xs.set k (x.use n))) : Arr (w.setCell ⟨b, k * 11 + 10, none⟩ (.int .i64 n)) a b S W (xs.set k (x.use n)) u := by
  refine ⟨?_, ?_, h.2.2.1, hg⟩
  · rw [heap_setCell, if_neg h.2.2.1, List.length_set]; exact h.1
  · rw [heap_setCell, if_pos rfl, h.2.1, rowSet_some, slt_use hx]

/-! ### Dropped -/
theorem adrop_nil (li : Int) (w : World) : Calls Tryd.prog 42 #[.pointer none, .int .i64 li] w fun e w' => e = .returned (.bool false) ∧ Chg [] w w' := by
  go_enter Tryd.func42, Tryd.ntmps42
  go_wp2_with fail
  refine (aset_nil li w).mono ?_
  rintro e w2 ⟨rfl, rfl⟩
  go_wp2_with fail
  refine (wayOf_ok none 0 0 li [] w (sl_nil _ 0) rfl (by omega)).mono ?_
  rintro e w2 ⟨rfl, c2⟩
  rw [hit_none (by simp)]
  go_wp2_with fail
  go_ret
  exact ⟨rfl, c2⟩
theorem adrop_any (a b S W : Nat) (xs : List Slt) (u li : Int) (w : World) (h : Arr w a b S W xs u) :
    Calls Tryd.prog 42 #[.pointer (some ⟨a, 0, none⟩), .int .i64 li] w (ArrTo w a b S W (dropXs xs li) u (.bool (dropVal xs li))) := by
  have H := Lib.hid h
  have HG := Lib.hid (h.2.2.2.dropXs li)
  rcases h.2.2.2.where li with ⟨k, y, e1, e2, hk, hy, hst, hli, h0, e3, e4, e5⟩ | ⟨e1, e2, e3, e4⟩
  · unfold dropXs dropVal at *
    rw [e2] at HG ⊢
    rw [show decide (setOf S li * W + k < xs.length) = true by simpa using e5]
    have HH := Lib.hid e3
    have HL := Lib.hid (h.2.2.2.seg_len li)
    have HY := Lib.hid hy
    have hw8 := h.2.2.2.way8
    obtain ⟨f, hf⟩ : ∃ f, setOf S li * W = f := ⟨_, rfl⟩
    have HF := Lib.hid hf
    rw [hf] at hy ⊢ HG
    have rh := slt_has hy [] 72
    have rp := slt_put hy [] 72 (0, 0) sltZ
    have hb := h.2.1
    clear h e1 e2 e3 e4 e5 hst hli hy hf
    go_enter Tryd.func42, Tryd.ntmps42
    go_wp2_with fail
    refine (aset_ok a b S W xs u li w H.out h0).mono ?_
    rintro e w2 ⟨rfl, c2⟩
    have C2 := Lib.hid c2
    clear c2
    go_wp2_with fail
    refine (wayOf_ok _ W W li _ w2 ((H.out.keep C2.out (by simp) (by simp)).sl li) HL.out.symm (by omega)).mono ?_
    rintro e w3 ⟨rfl, c3⟩
    rw [HH.out, HF.out]
    have C3 := Lib.hid (C2.out.trans c3)
    have hb3 := C3.out.keep hb (by simp)
    have ob3 := old hb3
    have g1 : (k : Int) < (W : Int) := by omega
    have g0 : (0 : Int) ≤ (k : Int) := by omega
    have g2 : (W : Int) ≤ 8 := by omega
    have t1 : decide ((k : Int) < 0) = false := by simp
    rw [Nat.add_mul] at rh rp
    clear c3 hb
    go_wp2_with fail
    go_ret
    refine ⟨rfl, ?_, ?_⟩
    · exact ((C3.out.mono (l' := [a, b]) (by simp)).putRow _ _ _ (.inl (by simp)))
    · have := (H.out.keep C3.out (by simp) (by simp)).putSlot (k := f + k) (by rw [← HF.out]; exact HY.out) sltZ HG.out
      rw [Nat.add_mul] at this
      exact this
  · rw [show dropXs xs li = xs by unfold dropXs; rw [e3, set_none], show dropVal xs li = false by unfold dropVal; rw [e3]; simp]
    have HN := Lib.hid e4
    clear h e1 e2 e3 e4 HG
    go_enter Tryd.func42, Tryd.ntmps42
    go_wp2_with fail
    refine (aset_miss a b S W xs u li w H.out HN.out).mono ?_
    rintro e w2 ⟨A, n, ys, rfl, s2, hn, hn1, hh, c2⟩
    have C2 := Lib.hid c2
    have S2 := Lib.hid s2
    have HH := Lib.hid hh
    have HN1 := Lib.hid hn
    clear c2 s2 hh hn
    go_wp2_with fail
    refine (wayOf_ok A n n li ys w2 S2.out HN1.out hn1).mono ?_
    rintro e w3 ⟨rfl, c3⟩
    rw [HH.out]
    have C3 := Lib.hid (C2.out.trans c3)
    clear c3
    go_wp2_with fail
    go_ret
    exact ArrTo.same H.out C3.out _

/-! ### Used -/
theorem Arr.next {w : World} {a b S W : Nat} {xs : List Slt} {u : Int} (h : Arr w a b S W xs u) (n : Int) : Arr (w.setCell ⟨a, 3, none⟩ (.int .i64 n)) a b S W xs n := by
  refine ⟨?_, ?_, h.2.2⟩
  · rw [heap_setCell, if_pos rfl, h.1, rowSet_some]; rfl
  · rw [heap_setCell, if_neg (Ne.symm h.2.2.1)]; exact h.2.1
theorem next_ok (a b S W : Nat) (xs : List Slt) (u : Int) (w : World) (h : Arr w a b S W xs u) (h0 : 0 ≤ u) (h1 : u ≤ 1000000000) :
    Calls Tryd.prog 58 #[.pointer (some ⟨a, 0, none⟩)] w fun e w' => e = .returned (.int .i64 (u + 1)) ∧ w' = w.setCell ⟨a, 3, none⟩ (.int .i64 (u + 1)) := by
  have ha := h.1
  have oa := old ha
  have g1 : u + 1 ≤ 9223372036854775807 := by omega
  have g0 : -9223372036854775808 ≤ u + 1 := by omega
  clear h
  go_enter Tryd.func58, Tryd.ntmps58
  go_wp2
  go_ret
  exact ⟨rfl, rfl⟩
theorem atouch_nil (li : Int) (w : World) : Calls Tryd.prog 31 #[.pointer none, .int .i64 li] w fun e w' => e = .returned (.tuple #[]) ∧ Chg [] w w' := by
  go_enter Tryd.func31, Tryd.ntmps31
  go_wp2_with fail
  refine (aset_nil li w).mono ?_
  rintro e w2 ⟨rfl, rfl⟩
  go_wp2_with fail
  refine (wayOf_ok none 0 0 li [] w (sl_nil _ 0) rfl (by omega)).mono ?_
  rintro e w2 ⟨rfl, c2⟩
  rw [hit_none (by simp)]
  go_wp2_with fail
  go_end0
  exact ⟨rfl, c2⟩
theorem atouch_any (a b S W : Nat) (xs : List Slt) (u li : Int) (w : World) (h : Arr w a b S W xs u) (u0 : 0 ≤ u) (u1 : u ≤ 1000000000) :
    Calls Tryd.prog 31 #[.pointer (some ⟨a, 0, none⟩), .int .i64 li] w (ArrTo w a b S W (touchXs xs u li) (touchU xs u li) (.tuple #[])) := by
  have H := Lib.hid h
  have HG := Lib.hid (h.2.2.2.touchXs u li)
  rcases h.2.2.2.where li with ⟨k, y, e1, e2, hk, hy, hst, hli, h0, e3, e4, e5⟩ | ⟨e1, e2, e3, e4⟩
  · unfold touchXs touchU at *
    rw [e2, hy] at HG ⊢
    rw [if_pos e5]
    have HH := Lib.hid e3
    have HL := Lib.hid (h.2.2.2.seg_len li)
    have HY := Lib.hid hy
    have hw8 := h.2.2.2.way8
    obtain ⟨f, hf⟩ : ∃ f, setOf S li * W = f := ⟨_, rfl⟩
    have HF := Lib.hid hf
    rw [hf] at hy HG ⊢
    have hce := slt_us hy []
    have hb := h.2.1
    have HAB := Lib.hid h.2.2.1
    clear h e1 e2 e3 e4 e5 hst hli hy hf
    go_enter Tryd.func31, Tryd.ntmps31
    go_wp2_with fail
    refine (aset_ok a b S W xs u li w H.out h0).mono ?_
    rintro e w2 ⟨rfl, c2⟩
    have C2 := Lib.hid c2
    clear c2
    go_wp2_with fail
    refine (wayOf_ok _ W W li _ w2 ((H.out.keep C2.out (by simp) (by simp)).sl li) HL.out.symm (by omega)).mono ?_
    rintro e w3 ⟨rfl, c3⟩
    rw [HH.out, HF.out]
    have C3 := Lib.hid (C2.out.trans c3)
    have g1 : (k : Int) < (W : Int) := by omega
    have g0 : (0 : Int) ≤ (k : Int) := by omega
    have g2 : (W : Int) ≤ 8 := by omega
    have t1 : decide ((0 : Int) ≤ (k : Int)) = true := by simp
    have A3 := Lib.hid (H.out.keep C3.out (by simp) (by simp))
    clear c3 hb
    go_wp2_with fail
    refine (next_ok a b S W xs u w3 A3.out u0 u1).mono ?_
    rintro e w4 ⟨rfl, rfl⟩
    have A4 := Lib.hid (A3.out.next (u + 1))
    have C4 := Lib.hid ((C3.out.mono (l' := [a, b]) (by simp)).setCell a 3 (.int .i64 (u + 1)) (.inl (by simp)))
    have hb4 := A4.out.2.1
    generalize w3.setCell ⟨a, 3, none⟩ (.int .i64 (u + 1)) = w4 at A4 C4 hb4 ⊢
    have ob4 := old hb4
    rw [Nat.add_mul] at hce
    go_wp2_with fail
    go_end0
    refine ⟨rfl, C4.out.setCell _ _ _ (.inl (by simp)), ?_⟩
    have := A4.out.putUse (k := f + k) (by rw [← HF.out]; exact HY.out) (u + 1) HG.out
    rw [Nat.add_mul] at this
    exact this
  · rw [show touchXs xs u li = xs by unfold touchXs; rw [e3, List.getElem?_eq_none (Nat.le_refl _)], show touchU xs u li = u by unfold touchU; rw [e3, if_neg (by omega)]]
    have HN := Lib.hid e4
    clear h e1 e2 e3 e4 HG
    go_enter Tryd.func31, Tryd.ntmps31
    go_wp2_with fail
    refine (aset_miss a b S W xs u li w H.out HN.out).mono ?_
    rintro e w2 ⟨A, n, ys, rfl, s2, hn, hn1, hh, c2⟩
    have C2 := Lib.hid c2
    have S2 := Lib.hid s2
    have HH := Lib.hid hh
    have HN1 := Lib.hid hn
    clear c2 s2 hh hn
    go_wp2_with fail
    refine (wayOf_ok A n n li ys w2 S2.out HN1.out hn1).mono ?_
    rintro e w3 ⟨rfl, c3⟩
    rw [HH.out]
    have C3 := Lib.hid (C2.out.trans c3)
    clear c3
    go_wp2_with fail
    go_end0
    exact ArrTo.same H.out C3.out _

/-! ### Set -/
theorem asetl_nil (li st : Int) (l : List Int) (w : World) : Calls Tryd.prog 38 #[.pointer none, .int .i64 li, .int .i64 st, .agg (vs l)] w fun e w' => e = .returned (.int .i64 1) ∧ Chg [] w w' := by
  go_enter Tryd.func38, Tryd.ntmps38
  go_wp2
  go_ret
  exact ⟨rfl, (Chg.refl _ _).alloc _⟩
theorem asetl_bad (a : Addr) (li st : Int) (l : List Int) (w : World) (h : badSet li st) : Calls Tryd.prog 38 #[.pointer (some a), .int .i64 li, .int .i64 st, .agg (vs l)] w fun e w' => e = .returned (.int .i64 1) ∧ Chg [] w w' := by
  by_cases h1 : li < 0
  · have t1 : decide (li < 0) = true := by simpa using h1
    clear h
    go_enter Tryd.func38, Tryd.ntmps38
    go_wp2
    go_ret
    exact ⟨rfl, (Chg.refl _ _).alloc _⟩
  · have t1 : decide (li < 0) = false := by simpa using h1
    by_cases h2 : st < 1
    · have t2 : decide (st < 1) = true := by simpa using h2
      clear h
      go_enter Tryd.func38, Tryd.ntmps38
      go_wp2
      go_ret
      exact ⟨rfl, (Chg.refl _ _).alloc _⟩
    · have t2 : decide (st < 1) = false := by simpa using h2
      have t3 : decide (9 < st) = true := by unfold badSet at h; simp; omega
      clear h
      go_enter Tryd.func38, Tryd.ntmps38
      go_wp2
      go_ret
      exact ⟨rfl, (Chg.refl _ _).alloc _⟩

theorem next_chg (a b S W : Nat) (xs : List Slt) (u : Int) (w : World) (h : Arr w a b S W xs u) (h0 : 0 ≤ u) (h1 : u ≤ 1000000000) :
    Calls Tryd.prog 58 #[.pointer (some ⟨a, 0, none⟩)] w fun e w' => e = .returned (.int .i64 (u + 1)) ∧ Chg [a] w w' ∧ Arr w' a b S W xs (u + 1) :=
  (next_ok a b S W xs u w h h0 h1).mono fun e w' ⟨he, hw⟩ => ⟨he, by rw [hw]; exact (Chg.refl _ _).setCell _ _ _ (.inl (by simp)), by rw [hw]; exact h.next _⟩
theorem asetl_any (a b S W : Nat) (xs : List Slt) (u li st : Int) (l : List Int) (hl8 : l.length = 8) (w : World) (h : Arr w a b S W xs u) (u0 : 0 ≤ u) (u1 : u ≤ 1000000000) :
    Calls Tryd.prog 38 #[.pointer (some ⟨a, 0, none⟩), .int .i64 li, .int .i64 st, .agg (vs l)] w (ArrTo w a b S W (setXs S W xs u li st l hl8) (setU S W xs u li st) (.int .i64 (setVal S W xs li st))) := by
  have H := Lib.hid h
  have HG := Lib.hid (h.2.2.2.setXs u li st l hl8)
  unfold setXs setU setVal at *
  by_cases hbad : badSet li st
  · rw [if_pos hbad, if_pos hbad, if_pos hbad]
    exact (asetl_bad ⟨a, 0, none⟩ li st l w hbad).mono fun e w' ⟨he, hc⟩ => by rw [he]; exact ArrTo.same h hc _
  rw [if_neg hbad] at HG ⊢
  rw [if_neg hbad, if_neg hbad]
  have h0 : 0 ≤ li := by unfold badSet at hbad; omega
  have b1 : decide (li < 0) = false := by simp; omega
  have b2 : decide (st < 1) = false := by unfold badSet at hbad; simp; omega
  have b3 : decide (9 < st) = false := by unfold badSet at hbad; simp; omega
  have HL := Lib.hid (h.2.2.2.seg_len li)
  have hw8 := h.2.2.2.way8
  have HAB := Lib.hid (show b ∉ [a] by have := h.2.2.1; simp; omega)
  clear hbad
  rcases h.2.2.2.where li with ⟨k, y, e1, e2, hk, hy, hst, hli, _, e3, e4, e5⟩ | ⟨e1, e2, e3, e4⟩
  · have ep : place S W xs li = setOf S li * W + k := by unfold place; rw [e2, if_pos e5]
    rw [ep] at HG ⊢
    rw [if_pos e5, if_pos e5]
    have HH := Lib.hid e3
    obtain ⟨f, hf⟩ : ∃ f, setOf S li * W = f := ⟨_, rfl⟩
    have HF := Lib.hid hf
    rw [hf] at hy HG ⊢
    have HY := Lib.hid hy
    clear h e1 e2 e3 e4 e5 hst hli hf ep
    go_enter Tryd.func38, Tryd.ntmps38
    go_wp2_with fail
    have hz : (w.alloc (.cells (vs l) 33)).heap[w.heap.size]? = some (.cells (vs l) 33 (0, 0)) := by simp
    have C0 := Lib.hid ((Chg.refl [] w).alloc (.cells (vs l) 33))
    generalize w.alloc (.cells (vs l) 33) = w1 at hz C0 ⊢
    refine (aset_ok a b S W xs u li w1 (H.out.keep C0.out (by simp) (by simp)) h0).mono ?_
    rintro e w2 ⟨rfl, c2⟩
    have hz2 := c2.keep hz (by simp)
    have C2 := Lib.hid (C0.out.trans c2)
    clear hz c2
    go_wp2_with fail
    refine (wayOf_ok _ W W li _ w2 ((H.out.keep C2.out (by simp) (by simp)).sl li) HL.out.symm (by omega)).mono ?_
    rintro e w3 ⟨rfl, c3⟩
    rw [HH.out]
    have C3 := Lib.hid (C2.out.trans c3)
    have hz3 := c3.keep hz2 (by simp)
    clear c3 hz2
    rw [HF.out]
    have g1 : (k : Int) < (W : Int) := by omega
    have g0 : (0 : Int) ≤ (k : Int) := by omega
    have g2 : (W : Int) ≤ 8 := by omega
    have t1 : decide ((k : Int) < 0) = false := by simp
    have A3 := Lib.hid (H.out.keep C3.out (by simp) (by simp))
    have oz3 := old hz3
    have HNZ := Lib.hid (show w.heap.size ∉ [a] by have := H.out.olda; simp; omega)
    have HNZ2 := Lib.hid (show w.heap.size ∉ [a, b] by have := H.out.olda; have := H.out.oldb; simp; omega)
    have HNB := Lib.hid (show (w.heap.size = b) = False by have := H.out.oldb; simp; omega)
    have hnb := HNB.out
    have rh := slt_has hy [] 72
    have rp := slt_put hy [] 72 (0, 0) ⟨st, li, l, u + 1, hl8⟩
    rw [Nat.add_mul] at rh rp
    go_wp2_with fail
    go_region_held3 (fun w' => w'.heap[w.heap.size]? = some (.cells (vs l) 33 (0, 0))) (first | exact hz3 | exact c4.keep hz3 HNZ.out | exact ((c4.mono (l' := [a, b]) (by simp)).putRow b _ _ (.inl (by simp))).keep hz3 HNZ2.out)
      (first | (go_at_call 58; refine (next_chg a b S W xs u _ (A3.out.keep ((Chg.refl [] w3).drew) (by simp) (by simp)) u0 u1).mono ?_; rintro e w' ⟨rfl, c4, a4⟩; have hb4 := a4.2.1; have ob4 := old hb4))
    all_goals
      have A4 := Lib.hid a4
      have C4 := Lib.hid c4
      clear a4 c4
      go_wp2_with fail
      go_ret
      refine ⟨rfl, ?_, ?_⟩
      · exact ((((C3.out.mono (l' := [a, b]) (by simp)).drew).trans (C4.out.mono (l' := [a, b]) (by simp))).putRow _ _ _ (.inl (by simp)))
      · have := A4.out.putSlot (k := f + k) (by rw [← HF.out]; exact (show xs[setOf S li * W + k]? = some y by rw [HF.out]; exact HY.out)) ⟨st, li, l, u + 1, hl8⟩ HG.out
        rw [Nat.add_mul] at this
        exact this
  · rcases h.2.2.2.room li with ⟨k, y, d1, hk, hy, hst, d3, d4, _⟩ | ⟨d1, d2, d3⟩
    · have ep : place S W xs li = setOf S li * W + k := by unfold place; rw [e3, d1, if_neg (by omega), if_pos hk]
      rw [ep] at HG ⊢
      rw [if_pos d4, if_pos d4]
      have HH := Lib.hid e1
      have HI := Lib.hid d3
      obtain ⟨f, hf⟩ : ∃ f, setOf S li * W = f := ⟨_, rfl⟩
      have HF := Lib.hid hf
      rw [hf] at hy HG ⊢
      have HY := Lib.hid hy
      clear h e1 e2 e3 e4 d1 d3 d4 hst hf ep
      go_enter Tryd.func38, Tryd.ntmps38
      go_wp2_with fail
      have hz : (w.alloc (.cells (vs l) 33)).heap[w.heap.size]? = some (.cells (vs l) 33 (0, 0)) := by simp
      have C0 := Lib.hid ((Chg.refl [] w).alloc (.cells (vs l) 33))
      generalize w.alloc (.cells (vs l) 33) = w1 at hz C0 ⊢
      refine (aset_ok a b S W xs u li w1 (H.out.keep C0.out (by simp) (by simp)) h0).mono ?_
      rintro e w2 ⟨rfl, c2⟩
      have hz2 := c2.keep hz (by simp)
      have C2 := Lib.hid (C0.out.trans c2)
      clear hz c2
      go_wp2_with fail
      refine (wayOf_ok _ W W li _ w2 ((H.out.keep C2.out (by simp) (by simp)).sl li) HL.out.symm (by omega)).mono ?_
      rintro e w3 ⟨rfl, c3⟩
      rw [HH.out]
      have C3 := Lib.hid (C2.out.trans c3)
      have hz3 := c3.keep hz2 (by simp)
      clear c3 hz2
      go_wp2_with fail
      refine (emptyWay_ok _ W W _ w3 ((H.out.keep C3.out (by simp) (by simp)).sl li) HL.out.symm (by omega)).mono ?_
      rintro e w3' ⟨rfl, c3'⟩
      rw [HI.out]
      have C3' := Lib.hid (C3.out.trans c3')
      have hz3' := c3'.keep hz3 (by simp)
      clear c3' hz3 C3
      rw [HF.out]
      have g1 : (k : Int) < (W : Int) := by omega
      have g0 : (0 : Int) ≤ (k : Int) := by omega
      have g2 : (W : Int) ≤ 8 := by omega
      have t1 : decide ((k : Int) < 0) = false := by simp
      have A3 := Lib.hid (H.out.keep C3'.out (by simp) (by simp))
      have oz3 := old hz3'
      have HNZ := Lib.hid (show w.heap.size ∉ [a] by have := H.out.olda; simp; omega)
      have HNZ2 := Lib.hid (show w.heap.size ∉ [a, b] by have := H.out.olda; have := H.out.oldb; simp; omega)
      have HNB := Lib.hid (show (w.heap.size = b) = False by have := H.out.oldb; simp; omega)
      have hnb := HNB.out
      have rh := slt_has hy [] 72
      have rp := slt_put hy [] 72 (0, 0) ⟨st, li, l, u + 1, hl8⟩
      rw [Nat.add_mul] at rh rp
      go_wp2_with fail
      go_region_held3 (fun w' => w'.heap[w.heap.size]? = some (.cells (vs l) 33 (0, 0))) (first | exact hz3' | exact c4.keep hz3' HNZ.out | exact ((c4.mono (l' := [a, b]) (by simp)).putRow b _ _ (.inl (by simp))).keep hz3' HNZ2.out)
        (first | (go_at_call 58; refine (next_chg a b S W xs u _ (A3.out.keep ((Chg.refl [] w3').drew) (by simp) (by simp)) u0 u1).mono ?_; rintro e w' ⟨rfl, c4, a4⟩; have hb4 := a4.2.1; have ob4 := old hb4))
      all_goals
        have A4 := Lib.hid a4
        have C4 := Lib.hid c4
        clear a4 c4
        go_wp2_with fail
        go_ret
        refine ⟨rfl, ?_, ?_⟩
        · exact ((((C3'.out.mono (l' := [a, b]) (by simp)).drew).trans (C4.out.mono (l' := [a, b]) (by simp))).putRow _ _ _ (.inl (by simp)))
        · have := A4.out.putSlot (k := f + k) (by rw [← HF.out]; exact (show xs[setOf S li * W + k]? = some y by rw [HF.out]; exact HY.out)) ⟨st, li, l, u + 1, hl8⟩ HG.out
          rw [Nat.add_mul] at this
          exact this
    · have ep : place S W xs li = xs.length := by unfold place; rw [e3, d2, if_neg (by omega), if_neg (by omega)]
      rw [ep, set_none, if_neg (by omega), if_neg (by omega)]
      have HH := Lib.hid e1
      have HI := Lib.hid d1
      clear h e1 e2 e3 e4 d1 d2 d3 ep
      go_enter Tryd.func38, Tryd.ntmps38
      go_wp2_with fail
      have hz : (w.alloc (.cells (vs l) 33)).heap[w.heap.size]? = some (.cells (vs l) 33 (0, 0)) := by simp
      have C0 := Lib.hid ((Chg.refl [] w).alloc (.cells (vs l) 33))
      generalize w.alloc (.cells (vs l) 33) = w1 at hz C0 ⊢
      refine (aset_ok a b S W xs u li w1 (H.out.keep C0.out (by simp) (by simp)) h0).mono ?_
      rintro e w2 ⟨rfl, c2⟩
      have hz2 := c2.keep hz (by simp)
      have C2 := Lib.hid (C0.out.trans c2)
      clear hz c2
      go_wp2_with fail
      refine (wayOf_ok _ W W li _ w2 ((H.out.keep C2.out (by simp) (by simp)).sl li) HL.out.symm (by omega)).mono ?_
      rintro e w3 ⟨rfl, c3⟩
      rw [HH.out]
      have C3 := Lib.hid (C2.out.trans c3)
      have hz3 := c3.keep hz2 (by simp)
      clear c3 hz2
      go_wp2_with fail
      refine (emptyWay_ok _ W W _ w3 ((H.out.keep C3.out (by simp) (by simp)).sl li) HL.out.symm (by omega)).mono ?_
      rintro e w3' ⟨rfl, c3'⟩
      rw [HI.out]
      have C3' := Lib.hid (C3.out.trans c3')
      have hz3' := c3'.keep hz3 (by simp)
      clear c3' hz3 C3
      go_wp2_with fail
      go_ret
      exact ArrTo.same H.out C3'.out _
end Go.Proofs.YtadeoflkppiflaaDoor
