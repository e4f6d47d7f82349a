/- The document's slots set: walked. No condition. -/
import Derived.Test.YtadeoflkppiflaaDoorArrr
namespace Go.Proofs.YtadeoflkppiflaaDoor
open Go.RowKit
set_option linter.unusedVariables false
set_option maxHeartbeats 1000000
attribute [local go_sem ↓] append_appS copy_copS clear_clrS make_mkS cell_row frozen_row loadLine storeLine loadSlot storeSlot heap_drew heap_drewN heap_alloc heap_past heap_setCell heap_putRow vs_get slc_st slc_li slc_us
attribute [local go_sem] rowCell_some rowFrozen_some rowHas_some rowIn_some rowPart_full rowPart_lit rowPut_full rowPut_lit rowSet_some size_putRow vs_size vs_one wideLine wideSlot run_loadS run_storeS run_appS run_copS run_clrS run_mkS loadW_at storeW_at fit_all fit_le one_int one_bool one_pointer one_slice allOne_list putRow_new ne_size1 ne_size2 ne_size3 ne_size4 zero8_length line_eq lit8 slc_size slc_one slc_part slc_in fold_slt slc_set_us
attribute [local simp ↓] heap_drew heap_drewN heap_alloc heap_past heap_setCell heap_putRow
attribute [local simp] rowCell_some rowFrozen_some rowHas_some rowIn_some rowPart_full rowPart_lit rowPut_full rowPut_lit rowSet_some size_putRow vs_size fit_all putRow_new ne_size1 ne_size2 ne_size3 ne_size4 zero8_length slc_size


attribute [local go_sem ↓] loadRSlot storeRSlot
attribute [local go_sem] wideRSlot
/-! ### The first empty slot of a set -/
theorem rfirst_f (a b S W : Nat) (xs : List Slt) (u li : Int) (f : Nat) (w : World) (h : RArr w a b S W xs u) (h0 : 0 ≤ li) (hf : setOf S li * W = f) :
    Calls Tryd.prog 71 #[.pointer (some ⟨a, 0, none⟩), .int .i64 li] w fun e w' => e = .returned (.int .i64 f) ∧ ∃ m, w' = w.drewN m := by
  subst hf; exact rfirst_ok a b S W xs u li w h h0
theorem rfree_ok (a b S W : Nat) (xs : List Slt) (u li : Int) (w : World) (h : RArr w a b S W xs u) (h0 : 0 ≤ li) :
    Calls Tryd.prog 61 #[.pointer (some ⟨a, 0, none⟩), .int .i64 li] w fun e w' => e = .returned (.int .i64 (freeI S W xs li)) ∧ Chg [] w w' := by
  have H := Lib.hid h
  have ha := h.1
  have hb := h.2.1
  have hg := h.2.2.2
  have hf := hg.fit li
  have hl := hg.len
  have h64 := hg.len64
  have hw8 := hg.way8
  obtain ⟨f, hfe⟩ : ∃ f, setOf S li * W = f := ⟨_, rfl⟩
  have HS := Lib.hid (hg.seg_len li)
  obtain ⟨ys, hys⟩ : ∃ ys, seg W xs (setOf S li) = ys := ⟨_, rfl⟩
  have HGET := Lib.hid (show ∀ k, k < W → ys[k]? = xs[f + k]? by intro k hk; rw [← hys, seg_get _ _ _ hk, hfe])
  have HF := Lib.hid hfe
  have HFR := Lib.hid (show freeI S W xs li = if ys.findIdx pFree < W then ((f + ys.findIdx pFree : Nat) : Int) else -1 by unfold freeI; rw [hys, hfe])
  rw [hys] at HS
  rw [hfe] at hf
  rw [← hl] at hf
  have HX := Lib.hid hf
  obtain ⟨N, hN⟩ : ∃ N, xs.length = N := ⟨_, rfl⟩
  rw [hN] at hf h64 ha
  have g1 : (f : Int) + (W : Int) ≤ (N : Int) := by omega
  have g2 : (N : Int) ≤ 64 := by omega
  have g4 : (0 : Int) ≤ (f : Int) := by omega
  clear hfe hl hN hg h hys
  go_enter Tryd.func61, Tryd.ntmps61
  go_wp2_with fail
  refine (rfirst_ok a b S W xs u li w H.out h0).mono ?_
  rintro e w1 ⟨rfl, m, rfl⟩
  rw [HF.out]
  go_wp2_with fail
  go_loopw [5] (fun i wr => ∃ k : Nat, k ≤ W ∧ i = .int .i64 ((f + k : Nat) : Int) ∧ Chg [] w wr ∧ ∀ x ∈ ys.take k, pFree x = false) (fun i _ => f + W - (intOf i).toNat)
  case atStart => exact ⟨0, by omega, rfl, (Chg.refl _ _).drewN _, by simp⟩
  case round =>
    obtain ⟨k, hk, rfl, hc, hno⟩ := hrel
    have HC := Lib.hid hc
    have HNO := Lib.hid hno
    have ha1 := hc.keep ha (by simp)
    have hb1 := hc.keep hb (by simp)
    clear hc hno
    have g0 : (0 : Int) ≤ ((f + k : Nat) : Int) := by omega
    by_cases hlt : k < W
    · have g3 : ((f + k : Nat) : Int) < (N : Int) := by omega
      have g5 : ((f + k : Nat) : Int) < (f : Int) + (W : Int) := by omega
      obtain ⟨y, hy⟩ : ∃ y, xs[f + k]? = some y := ⟨xs[f + k]'(by have := HX.out; omega), List.getElem?_eq_getElem _⟩
      have r1 := slt_st hy []
      have HY := Lib.hid (show ys[k]? = some y by rw [HGET.out k hlt, hy])
      clear hy ha hb
      go_wp2_with fail
      go_quiet (first | (go_at_call 71; exact Calls.quiet_of (rfirst_f a b S W xs u li f _ (H.out.keep (HC.out.drewN _) (by simp) (by simp)) h0 HF.out)))
      by_cases hs : y.st = 0
      · have t1 : (y.st == 0) = true := by simp [hs]
        have HP := Lib.hid (findIdx_hit HY.out (show pFree y = true by simp [pFree, hs]) HNO.out)
        go_wp2_with fail
        go_ret
        exact ⟨by rw [HFR.out, HP.out, if_pos hlt]; rfl, HC.out.drewN _⟩
      · have t1 : (y.st == 0) = false := by simp [hs]
        have HP := Lib.hid (take_all HY.out (show pFree y = false by simp [pFree, hs]) HNO.out)
        go_wp2_with fail
        go_roundw
        case rel => exact ⟨k + 1, by omega, by go_num, HC.out.drewN _, HP.out⟩
        case measure => simp [intOf]; omega
    · obtain rfl : k = W := by omega
      go_wp2_with fail
      go_quiet (first | (go_at_call 71; exact Calls.quiet_of (rfirst_f a b S k xs u li f _ (H.out.keep (HC.out.drewN _) (by simp) (by simp)) h0 HF.out)))
      go_wp2_with fail
      go_ret
      have e1 : ys.findIdx pFree = k := by
        have : ys.findIdx pFree = ys.length := List.findIdx_eq_length.2 (by intro x hx; have h1 := HNO.out; rw [← HS.out, List.take_length] at h1; simpa using h1 x hx)
        rw [this, HS.out]
      exact ⟨by rw [HFR.out, e1, if_neg (by omega)]; rfl, HC.out.drewN _⟩
/-! ### Set -/
theorem rsetl_at (a b S W : Nat) (xs : List Slt) (u li st : Int) (l : List Int) (hl8 : l.length = 8) (w : World) (h : RArr w a b S W xs u) (u0 : 0 ≤ u) (u1 : u ≤ 1000000000) (hb1 : ¬ badSet li st) (k : Nat) (y : Slt) (hk : xs[k]? = some y) (hh : hit (pLine li) xs = (k : Int)) (hgd : 0 ≤ li ∧ k / W = setOf S li) :
    Calls Tryd.prog 39 #[.pointer (some ⟨a, 0, none⟩), .int .i64 li, .int .i64 st, .agg (vs l)] w (RArrTo w a b S W (xs.set k ⟨st, li, l, u + 1, hl8⟩) (u + 1) (.int .i64 0)) := by
  have H := Lib.hid h
  have b1 : decide (li < 0) = false := by unfold badSet at hb1; simp; omega
  have b2 : decide (st < 1) = false := by unfold badSet at hb1; simp; omega
  have b3 : decide (9 < st) = false := by unfold badSet at hb1; simp; omega
  have HH := Lib.hid hh
  have HB := Lib.hid hb1
  have HGD := Lib.hid hgd
  clear hgd
  have h64 := h.2.2.2.len64
  have hkl := (List.getElem?_eq_some_iff.1 hk).1
  have rh := slt_has hk [] 78
  have rp := slt_put hk [] 78 (0, 0) ⟨st, li, l, u + 1, hl8⟩
  have HK := Lib.hid hk
  clear h hb1 hh hk
  go_enter Tryd.func39, Tryd.ntmps39
  go_wp2_with fail
  have hz : (w.alloc (.cells (vs l) 33)).heap[w.heap.size]? = some (.cells (vs l) 33 (0, 0)) := by simp
  have C0 := Lib.hid ((Chg.refl [] w).alloc (.cells (vs l) 33))
  generalize w.alloc (.cells (vs l) 33) = w1 at hz C0 ⊢
  refine (rat_ok a b S W xs u li w1 (H.out.keep C0.out (by simp) (by simp))).mono ?_
  rintro e w2 ⟨rfl, rfl⟩
  rw [HH.out]
  have A1 := Lib.hid (H.out.keep C0.out (by simp) (by simp))
  have t1 : decide ((k : Int) < 0) = false := by simp
  have ha := A1.out.1
  have hb := A1.out.2.1
  have oz := old hz
  have oa := old ha
  have ob := old hb
  have hab := A1.out.2.2.1
  have hba : b ≠ a := fun e => hab e.symm
  have hna : w.heap.size ≠ a := by have := H.out.olda; omega
  have hna' : a ≠ w.heap.size := by have := H.out.olda; omega
  have hnb : w.heap.size ≠ b := by have := H.out.oldb; omega
  have hnb' : b ≠ w.heap.size := by have := H.out.oldb; omega
  have g1 : u + 1 ≤ 9223372036854775807 := by omega
  have g0 : -9223372036854775808 ≤ u + 1 := by omega
  have g3 : (k : Int) < (xs.length : Int) := by omega
  have g4 : (0 : Int) ≤ (k : Int) := by omega
  have g2 : (xs.length : Int) ≤ 64 := by omega
  go_wp2_with fail
  go_region
  all_goals
    go_wp2_with fail
    go_ret
    refine ⟨rfl, ?_, ?_⟩
    · exact ((((C0.out.mono (l' := [a, b]) (by simp)).setCell a 3 _ (.inl (by simp))).drew).putRow _ _ _ (.inl (by simp)))
    · exact ((A1.out.next (u + 1)).keep ((Chg.refl [] _).drew) (by simp) (by simp)).putSlot HK.out _ (H.out.2.2.2.put _ _ (fun _ => HGD.out))
theorem rsetl_room (a b S W : Nat) (xs : List Slt) (u li st : Int) (l : List Int) (hl8 : l.length = 8) (w : World) (h : RArr w a b S W xs u) (u0 : 0 ≤ u) (u1 : u ≤ 1000000000) (hb1 : ¬ badSet li st) (k : Nat) (y : Slt) (hk : xs[k]? = some y) (hh : hit (pLine li) xs = -1) (hi : freeI S W xs li = (k : Int)) (hgd : 0 ≤ li ∧ k / W = setOf S li) :
    Calls Tryd.prog 39 #[.pointer (some ⟨a, 0, none⟩), .int .i64 li, .int .i64 st, .agg (vs l)] w (RArrTo w a b S W (xs.set k ⟨st, li, l, u + 1, hl8⟩) (u + 1) (.int .i64 0)) := by
  have H := Lib.hid h
  have b1 : decide (li < 0) = false := by unfold badSet at hb1; simp; omega
  have b2 : decide (st < 1) = false := by unfold badSet at hb1; simp; omega
  have b3 : decide (9 < st) = false := by unfold badSet at hb1; simp; omega
  have HH := Lib.hid hh
  have HI := Lib.hid hi
  have h0 : 0 ≤ li := by unfold badSet at hb1; omega
  have HB := Lib.hid hb1
  have HGD := Lib.hid hgd
  clear hgd
  have h64 := h.2.2.2.len64
  have hkl := (List.getElem?_eq_some_iff.1 hk).1
  have rh := slt_has hk [] 78
  have rp := slt_put hk [] 78 (0, 0) ⟨st, li, l, u + 1, hl8⟩
  have HK := Lib.hid hk
  clear h hb1 hh hk hi
  go_enter Tryd.func39, Tryd.ntmps39
  go_wp2_with fail
  have hz : (w.alloc (.cells (vs l) 33)).heap[w.heap.size]? = some (.cells (vs l) 33 (0, 0)) := by simp
  have C0 := Lib.hid ((Chg.refl [] w).alloc (.cells (vs l) 33))
  generalize w.alloc (.cells (vs l) 33) = w1 at hz C0 ⊢
  refine (rat_ok a b S W xs u li w1 (H.out.keep C0.out (by simp) (by simp))).mono ?_
  rintro e w2 ⟨rfl, rfl⟩
  rw [HH.out]
  go_wp2_with fail
  refine (rfree_ok a b S W xs u li w1 (H.out.keep C0.out (by simp) (by simp)) h0).mono ?_
  rintro e w2 ⟨rfl, c2⟩
  rw [HI.out]
  have hz2 := c2.keep hz (by simp)
  have C1 := Lib.hid (C0.out.trans c2)
  clear hz c2
  have A1 := Lib.hid (H.out.keep C1.out (by simp) (by simp))
  have t1 : decide ((k : Int) < 0) = false := by simp
  have ha := A1.out.1
  have hb := A1.out.2.1
  have oz := old hz2
  have oa := old ha
  have ob := old hb
  have hab := A1.out.2.2.1
  have hba : b ≠ a := fun e => hab e.symm
  have hna : w.heap.size ≠ a := by have := H.out.olda; omega
  have hna' : a ≠ w.heap.size := by have := H.out.olda; omega
  have hnb : w.heap.size ≠ b := by have := H.out.oldb; omega
  have hnb' : b ≠ w.heap.size := by have := H.out.oldb; omega
  have g1 : u + 1 ≤ 9223372036854775807 := by omega
  have g0 : -9223372036854775808 ≤ u + 1 := by omega
  have g3 : (k : Int) < (xs.length : Int) := by omega
  have g4 : (0 : Int) ≤ (k : Int) := by omega
  have g2 : (xs.length : Int) ≤ 64 := by omega
  go_wp2_with fail
  go_region
  all_goals
    go_wp2_with fail
    go_ret
    refine ⟨rfl, ?_, ?_⟩
    · exact ((((C1.out.mono (l' := [a, b]) (by simp)).setCell a 3 _ (.inl (by simp))).drew).putRow _ _ _ (.inl (by simp)))
    · exact ((A1.out.next (u + 1)).keep ((Chg.refl [] _).drew) (by simp) (by simp)).putSlot HK.out _ (H.out.2.2.2.put _ _ (fun _ => HGD.out))
theorem rsetl_full (a b S W : Nat) (xs : List Slt) (u li st : Int) (l : List Int) (w : World) (h : RArr w a b S W xs u) (hb1 : ¬ badSet li st) (hh : hit (pLine li) xs = -1) (hi : freeI S W xs li = -1) :
    Calls Tryd.prog 39 #[.pointer (some ⟨a, 0, none⟩), .int .i64 li, .int .i64 st, .agg (vs l)] w (RArrTo w a b S W xs u (.int .i64 13)) := by
  have H := Lib.hid h
  have b1 : decide (li < 0) = false := by unfold badSet at hb1; simp; omega
  have b2 : decide (st < 1) = false := by unfold badSet at hb1; simp; omega
  have b3 : decide (9 < st) = false := by unfold badSet at hb1; simp; omega
  have HH := Lib.hid hh
  have HI := Lib.hid hi
  have h0 : 0 ≤ li := by unfold badSet at hb1; omega
  have HB := Lib.hid hb1
  have h64 := h.2.2.2.len64
  clear h hb1 hh hi
  go_enter Tryd.func39, Tryd.ntmps39
  go_wp2_with fail
  have hz : (w.alloc (.cells (vs l) 33)).heap[w.heap.size]? = some (.cells (vs l) 33 (0, 0)) := by simp
  have C0 := Lib.hid ((Chg.refl [] w).alloc (.cells (vs l) 33))
  generalize w.alloc (.cells (vs l) 33) = w1 at hz C0 ⊢
  refine (rat_ok a b S W xs u li w1 (H.out.keep C0.out (by simp) (by simp))).mono ?_
  rintro e w2 ⟨rfl, rfl⟩
  rw [HH.out]
  go_wp2_with fail
  refine (rfree_ok a b S W xs u li w1 (H.out.keep C0.out (by simp) (by simp)) h0).mono ?_
  rintro e w2 ⟨rfl, c2⟩
  rw [HI.out]
  have hz2 := c2.keep hz (by simp)
  have C1 := Lib.hid (C0.out.trans c2)
  clear hz c2
  go_wp2_with fail
  go_ret
  exact RArrTo.same H.out C1.out _
theorem rsetl_bad (a : Nat) (li st : Int) (l : List Int) (w : World) (h : badSet li st) : Calls Tryd.prog 39 #[.pointer (some ⟨a, 0, none⟩), .int .i64 li, .int .i64 st, .agg (vs l)] w fun e w' => e = .returned (.int .i64 1) ∧ Chg [] w w' := by
  by_cases h1 : li < 0
  · have t1 : decide (li < 0) = true := by simpa using h1
    clear h
    go_enter Tryd.func39, Tryd.ntmps39
    go_wp2
    go_ret
    exact ⟨rfl, (Chg.refl _ _).alloc _⟩
  · have t1 : decide (li < 0) = false := by simpa using h1
    by_cases h2 : st < 1
    · have t2 : decide (st < 1) = true := by simpa using h2
      clear h
      go_enter Tryd.func39, Tryd.ntmps39
      go_wp2
      go_ret
      exact ⟨rfl, (Chg.refl _ _).alloc _⟩
    · have t2 : decide (st < 1) = false := by simpa using h2
      have t3 : decide (9 < st) = true := by unfold badSet at h; simp; omega
      clear h
      go_enter Tryd.func39, Tryd.ntmps39
      go_wp2
      go_ret
      exact ⟨rfl, (Chg.refl _ _).alloc _⟩
theorem rsetl_any (a b S W : Nat) (xs : List Slt) (u li st : Int) (l : List Int) (hl8 : l.length = 8) (w : World) (h : RArr w a b S W xs u) (u0 : 0 ≤ u) (u1 : u ≤ 1000000000) :
    Calls Tryd.prog 39 #[.pointer (some ⟨a, 0, none⟩), .int .i64 li, .int .i64 st, .agg (vs l)] w (RArrTo w a b S W (setXs S W xs u li st l hl8) (setU S W xs u li st) (.int .i64 (setVal S W xs li st))) := by
  unfold setXs setU setVal
  by_cases hbad : badSet li st
  · rw [if_pos hbad, if_pos hbad, if_pos hbad]
    exact (rsetl_bad a li st l w hbad).mono fun e w' ⟨he, hc⟩ => by rw [he]; exact RArrTo.same h hc _
  rw [if_neg hbad, if_neg hbad, if_neg hbad]
  have h0 : 0 ≤ li := by unfold badSet at hbad; omega
  rcases h.2.2.2.where li with ⟨k, y, e1, e2, hk, hy, hst, hli, _, e3, e4, e5⟩ | ⟨e1, e2, e3, e4⟩
  · have ep : place S W xs li = setOf S li * W + k := by unfold place; rw [e2, if_pos e5]
    rw [ep, if_pos e5, if_pos e5]
    exact rsetl_at a b S W xs u li st l hl8 w h u0 u1 hbad _ y hy e4 ⟨h0, div_of hk rfl⟩
  · rcases h.2.2.2.room li with ⟨k, y, d1, hk, hy, hst, d3, d4, _⟩ | ⟨d1, d2, d3⟩
    · have ep : place S W xs li = setOf S li * W + k := by unfold place; rw [e3, d1, if_neg (by omega), if_pos hk]
      rw [ep, if_pos d4, if_pos d4]
      exact rsetl_room a b S W xs u li st l hl8 w h u0 u1 hbad _ y hy e2 (by unfold freeI; rw [d1, if_pos hk]) ⟨h0, div_of hk rfl⟩
    · have ep : place S W xs li = xs.length := by unfold place; rw [e3, d2, if_neg (by omega), if_neg (by omega)]
      rw [ep, set_none, if_neg (by omega), if_neg (by omega)]
      exact rsetl_full a b S W xs u li st l w h hbad e2 (by unfold freeI; rw [d2, if_neg (by omega)])
end Go.Proofs.YtadeoflkppiflaaDoor
